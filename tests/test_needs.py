import unittest

from lockkeeper.courses import does_meet, last_stand, need_course
from lockkeeper.errors import BadLock, BadNumber, BadStand, BadPaper, BadWants, Nothing
from lockkeeper.locks import turned
from lockkeeper.needpapers import check_hours, way_told
from lockkeeper.needs import can_be, course_in, hours_paper, least_hours
from lockkeeper.wants import wants_backwards, wants_overturned
from tests.asking import Asking
from tests.plain import OTHERS, judge_need, needs_from, same, stands, variants
from tests.small import LOCKS, wants_of

BIG = 10 ** 30
LOCK = (10, 3, 2, 2)
NONE = (None, None)


class Needs(Asking):

    def test_against_all_courses(self):
        some = none = 0
        for lock in LOCKS:
            for wants in wants_of(lock):
                for stand in stands(lock):
                    told = needs_from(lock, stand, wants)
                    for other in stands(lock):
                        need = told.get(other)
                        some, none = some + (need is not None), none + (need is None)
                        self.told(need, least_hours(lock, stand, other, wants))
        self.assertTrue(some > 2000 and none > 2000, (some, none))

    def test_what_is_told(self):
        self.told(0, least_hours(LOCK, (4, 1), (4, 1), NONE))
        self.told(2, least_hours(lock=LOCK, stand=(4, 1), other=(9, 1), wants=NONE))
        self.told(3, least_hours(LOCK, (9, 1), (4, 1), NONE))
        self.told(1 + 4 + 1, least_hours(LOCK, (0, 0), (10, 0), (None, (0, 1, 1, 0))))
        self.told(None, least_hours(LOCK, (0, 0), (10, 1), (None, (0, 1, 1, 0))))
        self.told(None, least_hours(LOCK, (0, 0), (5, 0), ((1, 6), None)))
        self.told(None, least_hours((10, 3, 2, 0), (0, 0), (10, 0), (None, (0, 1, 1, 0))))
        self.told(0, least_hours((0, 1, 1, 0), (0, 0), (0, 0), ((0, 0), (0, 0, 0, 0))))
        self.told(2, least_hours((0, 1, 1, 2), (0, 0), (0, 0), ((0, 0), (0, 2, 2, 0))))

    def test_great_locks(self):
        self.told(BIG, least_hours((BIG, 1, 1, 0), (0, 0), (BIG, 0), NONE))
        self.told(1, least_hours((BIG, BIG, 1, 0), (0, 0), (BIG, 0), NONE))
        self.told(2 * BIG, least_hours((BIG, 1, 1, 0), (0, 0), (0, 0), ((0, BIG), None)))
        self.told(BIG // 3 + 1 + (BIG + 6) // 7, least_hours((BIG, 3, 7, 0), (0, 0), (0, 0), ((0, BIG), None)))
        self.told(None, least_hours((BIG, 1, 1, 2), (1, 0), (BIG, 0), ((1, BIG - 1), None)))

    def test_levels_and_rates_times_a_great_number(self):
        times = 10 ** 29
        for lock in LOCKS:
            great = (lock[0] * times, lock[1] * times, lock[2] * times, lock[3])
            for wants in wants_of(lock)[::3]:
                marks = None if wants[0] is None else (wants[0][0] * times, wants[0][1] * times)
                for stand in stands(lock)[::2]:
                    for other in stands(lock)[::3]:
                        ends = [(level * times, boats) for level, boats in (stand, other)]
                        self.told(least_hours(lock, stand, other, wants), least_hours(great, *ends, (marks, wants[1])))

    def test_facts(self):
        for lock in LOCKS:
            for wants in wants_of(lock)[::2]:
                back, over = wants_backwards(lock, wants), wants_overturned(lock, wants)
                for stand in stands(lock):
                    for other in stands(lock)[::2]:
                        need = least_hours(lock, stand, other, wants)
                        self.told(need, least_hours(turned(lock), other, stand, back))
                        ends = [(lock[0] - level, boats) for level, boats in (stand, other)]
                        self.told(need, least_hours(turned(lock), *ends, over))
                        if need is not None:
                            self.assertLessEqual(least_hours(lock, stand, other, NONE), need)


class Courses(Asking):

    def test_can_be_and_course_in(self):
        for lock in LOCKS:
            for wants in wants_of(lock):
                for stand in stands(lock)[::2]:
                    told = needs_from(lock, stand, wants)
                    for other in stands(lock):
                        need = told.get(other, 401)
                        for hours in {0, max(0, need - 1), need, need + 1, need + 9, 400} - {401, 402, 410}:
                            self.assertIs(can_be(lock, stand, other, wants, hours), need <= hours)
                            if need > hours:
                                self.refused(Nothing, {"given": hours}, course_in, lock, stand, other, wants, hours)
                                continue
                            course = course_in(lock, stand, other, wants, hours)
                            self.assertIs(need_course(lock, stand, course), course)
                            self.assertIs(type(course), tuple)
                            self.assertEqual(len(course), hours)
                            self.assertEqual(last_stand(lock, stand, course), other)
                            self.assertIs(does_meet(lock, stand, course, wants), True)
                            self.told(course, course_in(lock, stand, other, wants, hours))

    def test_great_numbers(self):
        lock = (BIG, 1, 1, 0)
        self.assertIs(can_be(lock, (0, 0), (BIG, 0), NONE, BIG), True)
        self.assertIs(can_be(lock, (0, 0), (BIG, 0), NONE, BIG - 1), False)
        self.assertIs(can_be(lock=lock, stand=(1, 0), other=(BIG, 0), wants=NONE, hours=BIG - 1), True)
        self.assertIs(can_be(lock, (0, 0), (0, 0), ((0, BIG), None), BIG), False)
        self.refused(Nothing, {"given": 400}, course_in, lock, (0, 0), (401, 0), NONE, 400)
        self.assertEqual(len(course_in(lock, (0, 0), (400, 0), NONE, 400)), 400)
        lock = (BIG, BIG // 300, BIG // 7, 1)
        wants = ((0, BIG), (0, 1, 1, 0))
        course = course_in(lock=lock, stand=(5, 0), other=(7, 0), wants=wants, hours=400)
        self.assertIs(does_meet(lock, (5, 0), course, wants), True)
        self.assertEqual((len(course), last_stand(lock, (5, 0), course)), (400, (7, 0)))

    def test_wrong_numbers(self):
        for hours in OTHERS + [-1, BIG + 1, (1,)]:
            self.refused(BadNumber, {"given": hours}, can_be, LOCK, (0, 0), (0, 0), NONE, hours)
        for hours in OTHERS + [-1, 401, BIG]:
            self.refused(BadNumber, {"given": hours}, course_in, LOCK, (0, 0), (0, 0), NONE, hours)
            # BadNumber stands ahead of Nothing.
            self.refused(BadNumber, {"given": hours}, course_in, LOCK, (0, 0), (0, 0), ((1, 1), None), hours)

    def test_the_arguments_in_turn(self):
        for call in (least_hours, hours_paper, lambda *given: can_be(*given, None), lambda *given: course_in(*given, None)):
            self.refused(BadLock, {"part": "form"}, call, None, None, None, None)
            self.refused(BadLock, {"part": "room"}, call, (1, 1, 1, True), None, None, None)
            self.refused(BadStand, {"given": True}, call, LOCK, True, None, None)
            self.refused(BadStand, {"given": (0, 3)}, call, LOCK, (0, 0), (0, 3), None)
            self.refused(BadWants, {"part": "form"}, call, LOCK, (0, 0), (0, 0), None)
            self.refused(BadWants, {"part": "marks"}, call, LOCK, (0, 0), (0, 0), ((1, 0), (3, 3, 3, 3)))


class Papers(Asking):

    def test_papers_hold(self):
        seen = {"need": 0, "never": 0}
        for lock in LOCKS:
            for wants in wants_of(lock):
                for stand in stands(lock)[::2]:
                    told = needs_from(lock, stand, wants)
                    for other in stands(lock)[1::2]:
                        paper = hours_paper(lock, stand, other, wants)
                        word = check_hours(lock, stand, other, wants, paper)
                        seen[word] += 1
                        self.assertEqual(word, judge_need(lock, stand, other, wants, paper))
                        self.assertEqual(word, "need" if other in told else "never")
                        if word == "need":
                            self.told(told[other], way_told(lock, stand, paper[1])[1])
                        self.assertTrue(same(paper, hours_paper(lock, stand, other, wants)))
        self.assertTrue(min(seen.values()) > 300, seen)

    def test_great_locks(self):
        for lock in [(BIG, 1, 1, 2), (BIG, BIG, 7, 1), (BIG, 10 ** 29, 10 ** 28, 2), (0, BIG, BIG, 2)]:
            for wants in [NONE, ((0, lock[0]), (2, 2, 2, 2)), (None, (1, 0, 0, 1)), ((0, lock[0] // 2), None)]:
                for stand, other in [((0, 0), (lock[0], 0)), ((lock[0] // 3, 1), (lock[0] // 5, 1)), ((0, 1), (0, 0))]:
                    paper = hours_paper(lock=lock, stand=stand, other=other, wants=wants)
                    self.assertEqual(check_hours(lock, stand, other, wants, paper), paper[0])
                    need = least_hours(lock, stand, other, wants)
                    self.assertEqual(paper[0], "never" if need is None else "need")
                    if need is not None:
                        self.told(need, way_told(lock, stand, paper[1])[1])

    def test_one_thing_otherwise(self):
        for lock, stand, other, wants in [((2, 1, 2, 1), (1, 0), (2, 1), NONE), ((2, 2, 1, 1), (1, 0), (0, 0), ((0, 2), None)),
                                          ((1, 1, 1, 1), (0, 0), (1, 0), (None, (0, 1, 1, 0))),
                                          ((0, 1, 1, 1), (0, 0), (0, 1), (None, (1, 0, 0, 1))),
                                          ((3, 1, 1, 1), (0, 0), (3, 0), ((0, 2), (0, 0, 1, 0)))]:
            paper = hours_paper(lock, stand, other, wants)
            bad = 0
            for tried in variants(paper):
                told = judge_need(lock, stand, other, wants, tried)
                if isinstance(told, str):
                    self.assertEqual(check_hours(lock, stand, other, wants, tried), told)
                else:
                    bad += 1
                    self.refused(BadPaper, {"part": told[1]}, check_hours, lock, stand, other, wants, tried)
            self.assertGreater(bad, 50)


if __name__ == "__main__":
    unittest.main()
