import random
import unittest

from lockkeeper.courses import (
    backwards, does_meet, last_stand, marks_of, need_course, overturned, passed_of, stands_of)
from lockkeeper.errors import BadCourse, BadLock, BadStand, BadWants
from lockkeeper.locks import turned
from lockkeeper.wants import wants_backwards, wants_overturned
from tests.asking import Asking
from tests.plain import OTHERS, after, hours_at, stands

BIG = 10 ** 30
LOCK = (6, 3, 2, 2)
STAND = (0, 1)
COURSE = (("lower", 1, 2), ("water", 3), ("water", 6), ("upper", 1, 0), ("upper", 0, 1), ("water", 5))
CALLS = [need_course, last_stand, stands_of, marks_of, passed_of, backwards, overturned]


def courses_by_chance(many):
    """Courses by a chance that is the same each time."""
    chance = random.Random(7)
    for _ in range(many):
        lock = (chance.randrange(5), chance.randrange(1, 4), chance.randrange(1, 4), chance.randrange(3))
        stand = chance.choice(stands(lock))
        here, course = stand, []
        for _ in range(chance.randrange(9)):
            course.append(chance.choice(hours_at(lock, here)))
            here = after(here, course[-1])
        yield lock, stand, tuple(course)


class Courses(Asking):

    def test_a_course_is_itself(self):
        for stand, course in [(STAND, COURSE), (STAND, ()), ((3, 0), (("water", 3),) * 400)]:
            self.assertIs(need_course(LOCK, stand, course), course)
            self.assertIs(need_course(lock=LOCK, stand=stand, thing=course), course)

    def test_no_tuple_or_too_long_a_one(self):
        for call in CALLS + [lambda *given: does_meet(*given, None)]:
            for thing in OTHERS + [list(COURSE), (("water", 3),) * 401, (None,) * 401, 3]:
                self.refused(BadCourse, {"number": None}, call, LOCK, (3, 0), thing)

    def test_the_first_thing_that_is_no_hour(self):
        for call in CALLS + [lambda *given: does_meet(*given, None)]:
            for at in range(len(COURSE)):
                for thing in OTHERS + [("water", 7), ("upper", 3, 0), ("to", 3, 1), ("lower", 0, 3), ("water", True)]:
                    course = COURSE[:at] + (thing,) + COURSE[at + 1:] + (None,)
                    self.refused(BadCourse, {"number": at}, call, LOCK, STAND, course)
        self.refused(BadCourse, {"number": 1}, need_course, LOCK, (3, 0), (("water", 6), ("lower", 0, 1)))
        self.refused(BadCourse, {"number": 399}, need_course, LOCK, (3, 0), (("water", 3),) * 399 + (None,))

    def test_the_arguments_in_turn(self):
        for call in CALLS + [lambda *given: does_meet(*given, None)]:
            self.refused(BadLock, {"part": "form"}, call, None, None, None)
            self.refused(BadStand, {"given": (0, 3)}, call, LOCK, (0, 3), None)
        self.refused(BadWants, {"part": "form"}, does_meet, LOCK, STAND, COURSE, None)
        self.refused(BadWants, {"part": "marks"}, does_meet, LOCK, STAND, COURSE, ((0, 7), None))
        self.refused(BadWants, {"part": "passed"}, does_meet, LOCK, STAND, COURSE, (None, (0, 0, 0, 3)))

    def test_what_is_told(self):
        self.told(((0, 1), (0, 2), (3, 2), (6, 2), (6, 1), (6, 2), (5, 2)), stands_of(LOCK, STAND, COURSE))
        self.told((5, 2), last_stand(LOCK, STAND, COURSE))
        self.told((0, 6), marks_of(LOCK, STAND, COURSE))
        self.told((1, 1, 2, 1), passed_of(LOCK, STAND, COURSE))
        named = {"lock": LOCK, "stand": (4, 1), "course": ()}
        self.told((((4, 1),), (4, 1), (4, 4), (0, 0, 0, 0)),
                  (stands_of(**named), last_stand(**named), marks_of(**named), passed_of(**named)))
        self.told((((4, 1), ()), ((2, 1), ())), (backwards(**named), overturned(**named)))

    def test_many_boats(self):
        course = (("upper", 2, 2),) * 400
        self.told((800, 800, 0, 0), passed_of((0, 1, 1, 2), (0, 2), course))

    def test_backwards_and_upside_down(self):
        self.told(((5, 2), (("water", 6), ("upper", 1, 0), ("upper", 0, 1), ("water", 3), ("water", 0), ("lower", 2, 1))),
                  backwards(LOCK, STAND, COURSE))
        self.told(((6, 1), (("upper", 1, 2), ("water", 3), ("water", 0), ("lower", 1, 0), ("lower", 0, 1), ("water", 1))),
                  overturned(LOCK, STAND, COURSE))

    def test_facts(self):
        for lock, stand, course in courses_by_chance(300):
            marks, passed = marks_of(lock, stand, course), passed_of(lock, stand, course)
            for call, call_wants in ((backwards, wants_backwards), (overturned, wants_overturned)):
                there, other = call(lock, stand, course)
                self.assertIs(need_course(turned(lock), there, other), other)
                self.told((stand, course), call(turned(lock), there, other))
                self.told(call_wants(lock, (marks, None))[0], marks_of(turned(lock), there, other))
                told = passed_of(turned(lock), there, other)
                if call is backwards:
                    self.told((passed[1], passed[0], passed[3], passed[2]), told)
                    self.told(last_stand(lock, stand, course), there)
                    self.told(stand, last_stand(turned(lock), there, other))
                else:
                    self.told((passed[2], passed[3], passed[0], passed[1]), told)

    def test_great_levels(self):
        lock = (BIG, BIG, 1, 1)
        course = (("water", BIG), ("upper", 0, 1), ("water", BIG - 1))
        self.told((BIG - 1, 1), last_stand(lock, (0, 0), course))
        self.told((0, BIG), marks_of(lock, (0, 0), course))
        self.told(((BIG - 1, 1), (("water", BIG), ("upper", 1, 0), ("water", 0))), backwards(lock, (0, 0), course))
        self.told(((BIG, 0), (("water", 0), ("lower", 0, 1), ("water", 1))), overturned(lock, (0, 0), course))


class Meeting(Asking):

    def test_marks_and_passed_and_none(self):
        for marks, well in [(None, True), ((0, 6), True), ((0, 5), False), ((1, 6), False), ((0, 0), False)]:
            for passed, good in [(None, True), ((1, 1, 2, 1), True), ((1, 1, 2, 2), False), ((1, 1, 1, 2), False)]:
                self.assertIs(does_meet(LOCK, STAND, COURSE, (marks, passed)), well and good)

    def test_the_empty_course(self):
        self.assertIs(does_meet(lock=LOCK, stand=(4, 1), course=(), wants=((4, 4), (0, 0, 0, 0))), True)
        self.assertIs(does_meet(LOCK, (4, 1), (), ((3, 4), None)), False)
        self.assertIs(does_meet(LOCK, (4, 1), (), (None, (0, 0, 0, 1))), False)

    def test_a_mark_is_met_only_if_it_is_come_to(self):
        self.assertIs(does_meet(LOCK, (1, 0), (("water", 3),), ((0, 3), None)), False)
        self.assertIs(does_meet(LOCK, (1, 0), (("water", 3),), ((1, 3), None)), True)

    def test_turned_wants_are_met_alike(self):
        for lock, stand, course in courses_by_chance(150):
            top = lock[0]
            passed = passed_of(lock, stand, course)
            tried = [passed, None, (0, 0, 0, 0), (1, 0, 0, 1)]
            for wants in [(marks, been) for been in tried if been is None or max(been) < 3
                          for marks in (None, (0, top), (top // 2, top), marks_of(lock, stand, course))]:
                met = does_meet(lock, stand, course, wants)
                for call, call_wants in ((backwards, wants_backwards), (overturned, wants_overturned)):
                    there, other = call(lock, stand, course)
                    self.assertIs(does_meet(turned(lock), there, other, call_wants(lock, wants)), met)


if __name__ == "__main__":
    unittest.main()
