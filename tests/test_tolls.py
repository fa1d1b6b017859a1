import unittest

from lockkeeper.errors import BadClock, BadNumber, BadToll
from lockkeeper.tollpapers import check_keens, check_toll_totals, check_tolls
from lockkeeper.tolls import (
    are_tolls_right, first_reckoning, first_wrong_call, keens, keens_paper, least_round, least_toll_added,
    least_toll_missed, many_reckonings, next_heard, toll_totals, toll_totals_paper, tolls_ahead, tolls_behind, tolls_may,
    tolls_paper, turned_clock)
from tests import plaintolls
from tests.asking import Asking
from tests.plain import OTHERS, same
from tests.sometolls import TWELVE, WRITTEN, tolls_by_chance

SMALL = WRITTEN[:12] + list(tolls_by_chance(250))
ROUND = ((TWELVE, 0, 0), ((None, 11), ((1, 3), None), ((0, 12), 2)))


def turned_tolls(tolls, many):
    return (turned_clock(tolls[0], many), tolls[1])


class Right(Asking):

    def test_against_all_reckonings(self):
        rights = 0
        for tolls in SMALL:
            all_of_them = plaintolls.reckonings(tolls)
            rights += bool(all_of_them)
            self.assertIs(are_tolls_right(tolls), bool(all_of_them))
            self.told(plaintolls.first_wrong(tolls), first_wrong_call(tolls))
            self.told(all_of_them[0] if all_of_them else None, first_reckoning(tolls))
            self.told(len(all_of_them), many_reckonings(tolls))
        self.assertTrue(50 < rights < len(SMALL) - 50)

    def test_residues_against_all_reckonings(self):
        for tolls in SMALL:
            for number in range(len(tolls[1])):
                self.told(plaintolls.ahead(tolls, number), tolls_ahead(tolls, number))
                self.told(plaintolls.behind(tolls, number), tolls_behind(tolls, number))
                self.told(plaintolls.may(tolls, number), tolls_may(tolls, number))

    def test_what_is_told(self):
        self.told((10,), tolls_ahead(ROUND, 0))
        self.told((0, 1, 11), tolls_ahead(tolls=ROUND, number=1))
        self.told((1,), tolls_ahead(ROUND, 2))
        self.told(tuple(range(12)), tolls_behind(tolls=ROUND, number=1))
        self.told((0, 1, 11), tolls_may(tolls=ROUND, number=1))
        self.told((10, (1, 2)), first_reckoning(tolls=ROUND))
        # From 11 in 2 HOURS, from 0 in 1, from 1 in none or in twelve.
        self.told(4, many_reckonings(tolls=ROUND))
        self.told((3, 15), toll_totals(tolls=ROUND, first=0, last=2))
        self.assertIs(are_tolls_right(tolls=ROUND), True)
        self.told(None, first_wrong_call(tolls=ROUND))
        self.told(2, first_wrong_call(((TWELVE, 0, 0), ((None, 1), ((1, 1), 2), ((1, 1), 2), ((0, 12), None)))))
        self.told(0, first_wrong_call(((TWELVE, 24, 24), ((None, 99),))))
        self.told((), tolls_ahead(((TWELVE, 24, 24), ((None, 99), ((0, 1), None))), 1))
        self.told(tuple(range(12)), tolls_behind(((TWELVE, 24, 24), ((None, 99), ((0, 1), None))), 1))

    def test_six_calls_and_24_hours(self):
        tolls = ((TWELVE, 0, 0), ((None, None),) + (((0, 5), None),) * 4 + (((4, 4), None),))
        self.told(12 * 6 ** 4, many_reckonings(tolls))
        self.told(tuple(range(4, 25)), toll_totals(tolls, 0, 5))
        self.told(tuple(range(0, 11)), toll_totals(tolls, 1, 3))
        self.told((0, (0, 0, 0, 0, 4)), first_reckoning(tolls))
        tolls = ((TWELVE, 0, 0), ((None, 12), ((12, 12), 12), ((12, 12), 12)))
        self.told((11, (12, 12)), first_reckoning(tolls))
        self.told((24,), toll_totals(tolls, 0, 2))

    def test_facts(self):
        for tolls in SMALL[12:160]:
            (strokes, missed, added), calls = tolls
            wider = ((strokes, missed + 1, added + 1), calls)
            looser = (tolls[0], tuple((gap and (max(0, gap[0] - 1), gap[1] + 1), None if number % 2 else heard)
                                      for number, (gap, heard) in enumerate(calls)))
            for other in (wider, looser):
                self.assertTrue(are_tolls_right(other) or not are_tolls_right(tolls))
                for number in range(len(calls)):
                    self.assertLessEqual(set(tolls_may(tolls, number)), set(tolls_may(other, number)))
            for number in range(len(calls)):
                both = set(tolls_ahead(tolls, number)) & set(tolls_behind(tolls, number))
                self.assertEqual(both, set(tolls_may(tolls, number)))
                self.assertIs(bool(both), are_tolls_right(tolls))


class Totals(Asking):

    def test_against_all_reckonings(self):
        for tolls in SMALL:
            for first in range(len(tolls[1])):
                for last in range(first, len(tolls[1])):
                    self.told(plaintolls.totals(tolls, first, last), toll_totals(tolls, first, last))
                self.told((0,) if are_tolls_right(tolls) else (), toll_totals(tolls, first, first))

    def test_next_heard(self):
        for tolls in SMALL[:80]:
            for gap in [(0, 0), (1, 1), (0, 2), (3, 7), (12, 12)]:
                self.told(plaintolls.heard_next(tolls, gap), next_heard(tolls, gap))

    def test_next_heard_that_is_told(self):
        self.told(((3, 4),), next_heard(tolls=ROUND, gap=(1, 2)))
        self.told(((2, 2), (7, 7)), next_heard((((2, 7), 0, 0), ((None, None),)), (0, 12)))
        self.told(((0, 48),), next_heard((((24,), 24, 24), ((None, 48),)), (0, 0)))
        self.told(((0, 0), (23, 24)), next_heard((((0, 24), 1, 0), ((None, None),)), (0, 1)))
        self.told(((1, 5),), next_heard((((2, 4), 1, 1), ((None, None),)), (0, 1)))
        self.told((), next_heard((((2,), 0, 0), ((None, 3),)), (0, 12)))
        # A seventh CALL, and more than 24 HOURS.
        tolls = ((TWELVE, 0, 0), ((None, 12), ((12, 12), None), ((12, 12), None), *[((0, 0), None)] * 3))
        self.told(((12, 12),), next_heard(tolls, (12, 12)))


class Clocks(Asking):

    def test_turned_clock(self):
        clock = ((1, 2, 3), 4, 5)
        for many, strokes in [(0, (1, 2, 3)), (1, (2, 3, 1)), (2, (3, 1, 2)), (3, (1, 2, 3)), (10 ** 30, (2, 3, 1)), (-1, (3, 1, 2))]:
            self.told((strokes, 4, 5), turned_clock(clock, many))
        self.told(((7,), 0, 0), turned_clock(clock=((7,), 0, 0), many=5))
        for thing in OTHERS + [(1,)]:
            self.refused(BadNumber, {"given": thing}, turned_clock, clock, thing)

    def test_least_round(self):
        for strokes, least in [((1,), (1,)), ((1, 1), (1,)), ((1, 2), (1, 2)), ((1, 2, 1, 2), (1, 2)), ((1, 2, 1), (1, 2, 1)),
                               ((1, 2, 1, 2, 1), (1, 2, 1, 2, 1)), ((0,) * 12, (0,)), (TWELVE, TWELVE),
                               ((1, 1, 2) * 4, (1, 1, 2)), ((1, 1, 2, 1, 1, 3) * 2, (1, 1, 2, 1, 1, 3)),
                               ((1, 2, 3, 1, 2, 3, 1, 2), (1, 2, 3, 1, 2, 3, 1, 2))]:
            self.told((least, 3, 4), least_round((strokes, 3, 4)))
            self.told((least, 0, 24), least_round(clock=(strokes, 0, 24)))

    def test_the_same_by_a_turned_clock_and_by_the_least_round(self):
        some = [tolls for tolls in SMALL if len(set(tolls[0][0])) < len(tolls[0][0])][:40] + SMALL[:20]
        for tolls in some:
            last = len(tolls[1]) - 1
            for other in [turned_tolls(tolls, 1), turned_tolls(tolls, 5), (least_round(tolls[0]), tolls[1])]:
                self.assertIs(are_tolls_right(other), are_tolls_right(tolls))
                self.told(toll_totals(tolls, 0, last), toll_totals(other, 0, last))
                self.told(keens(tolls), keens(other))

    def test_wrong_clocks(self):
        for call in (least_round, lambda clock: turned_clock(clock, None)):
            for thing in OTHERS:
                self.refused(BadClock, {"part": "form"}, call, thing)
            self.refused(BadClock, {"part": "strokes"}, call, ((), True, True))


class Keens(Asking):

    def test_against_all_pairs(self):
        for tolls in WRITTEN[:11] + list(tolls_by_chance(50, seed=9, longest=3)):
            told = plaintolls.keens(tolls)
            self.told(told, keens(tolls))
            self.told(told, tuple(sorted(told)))
            clock, calls = tolls
            missed = [many for many in range(25) if are_tolls_right(((clock[0], many, clock[2]), calls))]
            added = [many for many in range(25) if are_tolls_right(((clock[0], clock[1], many), calls))]
            self.told(min(missed, default=None), least_toll_missed(tolls))
            self.told(min(added, default=None), least_toll_added(tolls))
            for pair in [(0, 0), (3, 1), (0, 24), (24, 0), (24, 24)]:
                some = any(keen[0] <= pair[0] and keen[1] <= pair[1] for keen in told)
                self.assertIs(are_tolls_right(((clock[0], *pair), calls)), some)

    def test_what_is_told(self):
        self.told(((0, 0),), keens(tolls=ROUND))
        self.told(((0, 1), (1, 0)), keens((((3, 5), 9, 9), ((None, 4),))))
        self.told((), keens((((3,), 0, 0), ((None, 99),))))
        self.told(((0, 24),), keens((((0,), 0, 0), ((None, 24),))))
        self.told(((24, 0),), keens((((24,), 0, 0), ((None, 0),))))
        self.told((), keens((((0,), 0, 0), ((None, 25),))))
        tolls = (((17, 12, 16, 11, 14, 10, 13, 8, 12, 5), 0, 0), ((None, 12), ((1, 1), 12)))
        self.told(((0, 4), (1, 2), (2, 1), (4, 0)), keens(tolls))

    def test_many_keens(self):
        # The first CALL is at one of two RESIDUES, the second one then at the other one.
        tolls = (((10, 12), 0, 0), ((None, 11), ((1, 1), 11)))
        self.told(((1, 1),), keens(tolls))
        tolls = (((10, 14), 0, 0), ((None, 12), ((0, 1), 12)))
        self.told(((0, 2), (2, 0)), keens(tolls))
        tolls = (((0, 3, 6, 9, 12), 0, 0), ((None, 6), ((0, 4), 7), ((1, 1), 5)))
        self.told(plaintolls.keens(tolls), keens(tolls))
        self.assertGreater(len(keens(tolls)), 1)

    def test_least_missed_and_added(self):
        self.told(3, least_toll_missed(tolls=(((5,), 0, 0), ((None, 2),))))
        self.told(None, least_toll_added(tolls=(((5,), 0, 0), ((None, 2),))))
        self.told(4, least_toll_added((((5,), 0, 0), ((None, 9),))))
        self.told(None, least_toll_missed((((5,), 24, 3), ((None, 9),))))
        self.told(0, least_toll_missed((((5,), 24, 4), ((None, 9),))))
        self.told(24, least_toll_missed((((24,), 0, 0), ((None, 0),))))
        self.told(24, least_toll_added((((24,), 0, 0), ((None, 48),))))
        self.told(None, least_toll_added((((24,), 0, 0), ((None, 49),))))


class Papers(Asking):

    def test_papers_hold(self):
        words = {"agrees": 0, "out": 0}
        for tolls in SMALL + WRITTEN[12:]:
            paper = tolls_paper(tolls=tolls)
            word = check_tolls(tolls, paper)
            words[word] += 1
            self.assertEqual(word, "agrees" if are_tolls_right(tolls) else "out")
            self.assertTrue(same(paper, tolls_paper(tolls)))
            last = len(tolls[1]) - 1
            for first, until in {(0, last), (0, 0), (last, last), (last // 2, last), (0, last // 2)}:
                paper = toll_totals_paper(tolls=tolls, first=first, last=until)
                self.told(toll_totals(tolls, first, until), check_toll_totals(tolls, first, until, paper))
                self.assertTrue(same(paper, toll_totals_paper(tolls, first, until)))
        self.assertGreater(min(words.values()), 30)

    def test_papers_on_keens_hold(self):
        for tolls in WRITTEN + SMALL[12:112]:
            paper = keens_paper(tolls=tolls)
            self.told(keens(tolls), check_keens(tolls, paper))
            self.assertTrue(same(paper, keens_paper(tolls)))

    def test_plain_judges_tell_the_same(self):
        for tolls in WRITTEN[:8]:
            last = len(tolls[1]) - 1
            self.assertEqual(plaintolls.judge_tolls(tolls, tolls_paper(tolls)), tolls_paper(tolls)[0])
            self.told(toll_totals(tolls, 0, last), plaintolls.judge_totals(tolls, 0, last, toll_totals_paper(tolls, 0, last)))
            self.told(keens(tolls), plaintolls.judge_keens(tolls, keens_paper(tolls)))


class WrongArguments(Asking):

    def test_tolls(self):
        ones = [are_tolls_right, first_wrong_call, first_reckoning, many_reckonings, keens, least_toll_missed,
                least_toll_added, tolls_paper, keens_paper]
        ones += [lambda tolls, call=call: call(tolls, None) for call in (tolls_ahead, tolls_behind, tolls_may, next_heard)]
        ones += [lambda tolls, call=call: call(tolls, None, None) for call in (toll_totals, toll_totals_paper)]
        for call in ones:
            for thing in OTHERS:
                self.refused(BadToll, {"part": "form"}, call, thing)
            self.refused(BadClock, {"part": "form"}, call, (None, None))
            self.refused(BadClock, {"part": "missed"}, call, (((1,), True, True), None))
            self.refused(BadToll, {"part": "calls"}, call, (((1,), 0, 0), ()))
            self.refused(BadToll, {"part": 1}, call, (((1,), 0, 0), ((None, 0), ((1, 0), 0))))
            self.refused(BadToll, {"part": "hours"}, call, (((1,), 0, 0), ((None, 0),) + (((0, 9), 0),) * 3))

    def test_numbers(self):
        for thing in OTHERS + [-1, 3, (0,), 10 ** 30]:
            for call in (tolls_ahead, tolls_behind, tolls_may):
                self.refused(BadNumber, {"given": thing}, call, ROUND, thing)
            for call in (toll_totals, toll_totals_paper):
                self.refused(BadNumber, {"given": thing}, call, ROUND, thing, "last")
                self.refused(BadNumber, {"given": thing}, call, ROUND, 2, thing)
        for call in (toll_totals, toll_totals_paper):
            self.refused(BadNumber, {"given": 1}, call, ROUND, 2, 1)

    def test_gaps(self):
        for thing in OTHERS + [(), (0,), (0, 1, 2), (2, 1), (0, 13), (-1, 2), (False, 1), (0, True), [0, 1], 5]:
            self.refused(BadNumber, {"given": thing}, next_heard, ROUND, thing)


if __name__ == "__main__":
    unittest.main()
