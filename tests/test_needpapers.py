import unittest

from lockkeeper.errors import BadKnot, BadLock, BadPaper, BadStand, BadWants, BadWay
from lockkeeper.needpapers import check_hours, end_from, first_knot, is_way, steps_from, way_told
from tests.asking import Asking
from tests.plain import (
    OTHERS, judge_need, knots, plain_end, plain_first, plain_steps, plain_way, stands, variants)

BIG = 10 ** 30
LOCK = (10, 3, 2, 2)
NONE = (None, None)
CASES = [
    (LOCK, (4, 1), NONE), (LOCK, (0, 2), ((0, 10), (1, 0, 0, 2))), (LOCK, (10, 0), ((3, 10), None)),
    (LOCK, (4, 1), ((4, 4), None)), (LOCK, (2, 1), ((4, 8), (0, 0, 0, 0))), ((0, 1, 1, 2), (0, 1), ((0, 0), None)),
    ((0, 2, 1, 1), (0, 0), (None, (1, 1, 0, 1))), ((5, 1, 9, 0), (5, 0), NONE), ((BIG, 7, BIG, 1), (BIG, 1), NONE),
    ((BIG, 1, 3, 2), (9, 2), ((0, BIG), (0, 2, 1, 0))), ((BIG, BIG, 1, 0), (3, 0), ((0, BIG - 1), (0, 0, 0, 0))),
]


class Knots(Asking):

    def test_first_knot(self):
        self.told(("first", 1, None, (1, 1)), first_knot(LOCK, (4, 1), NONE))
        self.told(("first", 1, (0, 1, 2, 0), (0, 0)), first_knot(LOCK, (4, 1), ((3, 5), (0, 1, 2, 0))))
        self.told(("first", 2, None, (1, 0)), first_knot(LOCK, (3, 2), ((3, 5), None)))
        self.told(("first", 0, None, (0, 1)), first_knot(LOCK, (5, 0), ((3, 5), None)))
        self.told(("first", 0, None, (1, 1)), first_knot(lock=LOCK, stand=(5, 0), wants=((5, 5), None)))
        self.told(None, first_knot(LOCK, (2, 0), ((3, 5), None)))
        self.told(None, first_knot(LOCK, (6, 0), ((3, 5), None)))

    def test_steps_that_are_told(self):
        left = (1, 1, 0, 2)
        wants = ((0, 10), left)
        self.told(((("high", 1, left, (0, 1)), 2), (("low", 1, left, (1, 0)), 2)),
                  steps_from(LOCK, (4, 1), wants, ("first", 1, left, (0, 0))))
        self.told(((("high", 2, left, (1, 1)), 4), (("low", 0, (1, 1, 0, 0), (1, 0)), 1),
                   (("low", 1, (1, 1, 0, 1), (1, 0)), 1)),
                  steps_from(LOCK, (4, 1), wants, ("low", 2, left, (1, 0))))
        self.told(((("high", 0, (1, 0, 0, 2), (0, 1)), 1), (("high", 1, (0, 0, 0, 2), (0, 1)), 1),
                   (("high", 2, (0, 1, 0, 2), (0, 1)), 1), (("low", 1, left, (1, 1)), 5)),
                  steps_from(LOCK, (4, 1), wants, ("high", 1, left, (0, 1))))

    def test_a_step_may_lead_to_the_same_knot(self):
        told = steps_from(LOCK, (4, 1), NONE, ("low", 1, None, (1, 1)))
        self.told(((("high", 1, None, (1, 1)), 4), (("low", 0, None, (1, 1)), 1), (("low", 1, None, (1, 1)), 1),
                   (("low", 2, None, (1, 1)), 1)), told)

    def test_no_gate_beyond_the_marks(self):
        self.told(((("high", 1, None, (1, 1)), 2),), steps_from(LOCK, (4, 1), ((1, 7), None), ("low", 1, None, (1, 0))))
        self.told(((("low", 1, None, (1, 1)), 3),), steps_from(LOCK, (4, 1), ((1, 7), None), ("high", 1, None, (0, 1))))

    def test_steps_and_ends_of_all_knots(self):
        for lock, stand, wants in CASES:
            self.told(plain_first(lock, stand, wants), first_knot(lock, stand, wants))
            others = stands(lock) if lock[0] < 100 else [(0, 0), (lock[0], 0), (5, lock[3]), (lock[0] - 1, 0)]
            for knot in knots(lock, stand, wants):
                told = plain_steps(lock, stand, wants, knot)
                self.told(tuple(sorted(told.items())), steps_from(lock, stand, wants, knot))
                for other in others:
                    self.told(plain_end(lock, stand, other, wants, knot), end_from(lock, stand, other, wants, knot))

    def test_an_end(self):
        knot = ("high", 1, (0, 0, 0, 0), (1, 1))
        self.told(3, end_from(LOCK, (2, 1), (3, 1), ((2, 8), (1, 0, 1, 0)), knot))
        self.told(0, end_from(lock=LOCK, stand=(2, 1), other=(8, 1), wants=((2, 8), (1, 0, 1, 0)), knot=knot))
        self.told(None, end_from(LOCK, (2, 1), (9, 1), ((2, 8), (1, 0, 1, 0)), knot))
        self.told(None, end_from(LOCK, (2, 1), (3, 0), ((2, 8), (1, 0, 1, 0)), knot))

    def test_what_has_not_the_form_of_a_knot(self):
        for lock, stand, wants in CASES:
            forms = {repr(knot) for knot in knots(lock, stand, wants)}
            tried = [("first", 0, wants[1], (1, 1)), ("low", lock[3], wants[1], (1, 1)), ("low", 0, wants[1], (0, 1)),
                     ("high", 0, (0, 0, 0, 0), (0, 0)), ("high", 0, None, (1, 1)), ("low", 0, (2, 2, 2, 2), (1, 1))]
            wrong = [knot for knot in tried if repr(knot) not in forms] + OTHERS
            wrong += [other for knot in tried for other in variants(knot) if repr(other) not in forms]
            self.assertGreater(len(wrong), 50)
            for knot in wrong:
                self.refused(BadKnot, {"given": knot}, steps_from, lock, stand, wants, knot)
                self.refused(BadKnot, {"given": knot}, end_from, lock, stand, stand, wants, knot)

    def test_first_is_a_place_only_where_there_is_a_first_knot(self):
        knot = ("first", 0, None, (0, 0))
        self.refused(BadKnot, {"given": knot}, steps_from, LOCK, (2, 0), ((3, 5), None), knot)
        self.refused(BadKnot, {"given": knot}, end_from, LOCK, (6, 0), (4, 0), ((3, 5), None), knot)
        self.assertEqual(len(steps_from(LOCK, (4, 0), ((3, 5), None), knot)), 2)

    def test_the_arguments_in_turn(self):
        for call in (first_knot, lambda *given: steps_from(*given, None)):
            self.refused(BadLock, {"part": "form"}, call, None, None, None)
            self.refused(BadStand, {"given": None}, call, LOCK, None, None)
            self.refused(BadWants, {"part": "form"}, call, LOCK, (0, 0), None)
        for call in (lambda *given: end_from(*given, None), lambda *given: check_hours(*given, None)):
            self.refused(BadLock, {"part": "top"}, call, (True, 1, 1, 1), None, None, None)
            self.refused(BadStand, {"given": 1}, call, LOCK, 1, 2, None)
            self.refused(BadStand, {"given": 2}, call, LOCK, (0, 0), 2, None)
            self.refused(BadWants, {"part": "passed"}, call, LOCK, (0, 0), (0, 0), (None, True))


class Ways(Asking):

    WAY = (("lower", 1, 2), ("to", 5, 2), ("to", 5, 1), ("to", 10, 9), ("upper", 2, 0), ("to", 0, 10 ** 40), ("lower", 0, 1))

    def test_told(self):
        self.told(((0, 1), 2 + 1 + 9 + 10 ** 40 + 3, (0, 10), (0, 2, 3, 1)), way_told(LOCK, (0, 1), self.WAY))
        self.told(((4, 2), 0, (4, 4), (0, 0, 0, 0)), way_told(lock=LOCK, stand=(4, 2), way=()))
        self.assertIs(is_way(LOCK, (0, 1), self.WAY), True)
        self.assertIs(is_way(lock=LOCK, stand=(4, 2), value=()), True)

    def test_n_from_the_straight_hours_to_the_longest(self):
        for lock, level, far, least in [(LOCK, 0, 10, 4), (LOCK, 10, 0, 5), (LOCK, 3, 3, 1), ((BIG, 1, 1, 0), 0, BIG, BIG)]:
            for many, well in [(least - 1, False), (least, True), (least + 1, True), (10 ** 40, True),
                               (10 ** 40 + 1, False), (0, False), (-1, False)]:
                way = (("to", far, many),)
                self.assertIs(is_way(lock, (level, 0), way), well, (lock, way))
                if well:
                    self.told(((far, 0), many, (min(level, far), max(level, far)), (0, 0, 0, 0)),
                              way_told(lock, (level, 0), way))
                else:
                    self.refused(BadWay, {"number": 0}, way_told, lock, (level, 0), way)

    def test_400_and_401_legs(self):
        legs = (("to", 4, 1),)
        self.told(((4, 0), 400, (4, 4), (0, 0, 0, 0)), way_told(LOCK, (4, 0), legs * 400))
        self.refused(BadWay, {"number": None}, way_told, LOCK, (4, 0), legs * 401)
        self.assertIs(is_way(LOCK, (4, 0), legs * 401), True)
        self.assertIs(is_way(LOCK, (4, 0), legs * 1000), True)
        self.refused(BadWay, {"number": 399}, way_told, LOCK, (4, 0), legs * 399 + (None,))

    def test_what_is_no_way(self):
        for thing in OTHERS + [list(self.WAY)]:
            self.assertIs(is_way(LOCK, (0, 1), thing), False)
            self.refused(BadWay, {"number": None}, way_told, LOCK, (0, 1), thing)
        for at in range(len(self.WAY)):
            for thing in OTHERS + [("to", 11, 4), ("to", -1, 5), ("to", True, 5), ("to", 5, True), ("to", 5), ("water", 5),
                                   ("to", 5, 1, 1), ("upper", 0, 3), ("lower", 3, 0), ("lower", 0, True), ("upper", 0)]:
                way = self.WAY[:at] + (thing,) + self.WAY[at + 1:] + (None,)
                self.assertIs(is_way(LOCK, (0, 1), way), False)
                self.refused(BadWay, {"number": at}, way_told, LOCK, (0, 1), way)

    def test_one_thing_otherwise(self):
        seen = {True: 0, False: 0}
        for way in variants(self.WAY):
            told = plain_way(LOCK, (0, 1), way)
            seen[told is not None] += 1
            self.assertIs(is_way(LOCK, (0, 1), way), told is not None, way)
            if told is not None:
                self.told(told, way_told(LOCK, (0, 1), way))
        self.assertTrue(seen[True] and seen[False])

    def test_the_arguments_in_turn(self):
        for call in (is_way, way_told):
            self.refused(BadLock, {"part": "form"}, call, None, None, None)
            self.refused(BadStand, {"given": (11, 0)}, call, LOCK, (11, 0), None)


class Papers(Asking):

    # LOCK, STAND, STAND, WANTS and a paper that holds.
    HOLD = [
        ((2, 1, 2, 0), (0, 0), (2, 0), NONE,
         ("need", (("to", 2, 2),), ((("first", 0, None, (1, 1)), 2), (("low", 0, None, (1, 1)), 2)))),
        ((2, 1, 2, 0), (1, 0), (1, 0), NONE, ("need", (), ())),
        ((2, 1, 2, 0), (1, 0), (1, 0), ((0, 2), None),
         ("need", (("to", 2, 1), ("to", 0, 1), ("to", 1, 1)),
          ((("first", 0, None, (0, 0)), 3), (("high", 0, None, (0, 1)), 2), (("low", 0, None, (1, 0)), 2),
           (("low", 0, None, (1, 1)), 1)))),
        ((0, 1, 1, 1), (0, 0), (0, 0), (None, (1, 0, 0, 1)),
         ("need", (("upper", 0, 1), ("lower", 1, 0)),
          ((("first", 0, (1, 0, 0, 1), (1, 1)), 2), (("high", 0, (1, 0, 0, 1), (1, 1)), 2),
           (("high", 1, (0, 0, 0, 1), (1, 1)), 1), (("low", 0, (1, 0, 0, 1), (1, 1)), 2),
           (("low", 1, (0, 0, 0, 1), (1, 1)), 1)))),
        ((2, 1, 2, 0), (0, 0), (2, 0), ((0, 1), None),
         ("never", (("first", 0, None, (1, 0)), ("high", 0, None, (1, 1)), ("low", 0, None, (1, 0)),
                    ("low", 0, None, (1, 1))))),
        ((2, 1, 2, 0), (2, 0), (0, 0), ((0, 1), None), ("never", ())),
        ((BIG, 1, 1, 0), (0, 0), (BIG, 0), NONE,
         ("need", (("to", BIG, BIG),), ((("first", 0, None, (1, 1)), BIG), (("low", 0, None, (1, 1)), BIG)))),
    ]

    def test_papers_that_hold(self):
        for lock, stand, other, wants, paper in self.HOLD:
            self.assertEqual(check_hours(lock, stand, other, wants, paper), paper[0])
        self.assertEqual(check_hours(lock=(1, 1, 1, 0), stand=(0, 0), other=(0, 0), wants=NONE, paper=("need", (), ())),
                         "need")

    def test_more_legs_than_400(self):
        lock = (1, 1, 1, 0)
        way = (("to", 0, 1),) * 401
        lows = ((("first", 0, None, (1, 1)), 401),)
        self.refused(BadPaper, {"part": "need"}, check_hours, lock, (0, 0), (0, 0), NONE, ("need", way, lows))
        stand, other = (0, 0), (400, 0)
        lock = (400, 1, 1, 0)
        way = tuple(("to", level, 1) for level in range(1, 401))
        lows = ((("first", 0, None, (1, 1)), 400), (("low", 0, None, (1, 1)), 400))
        self.assertEqual(check_hours(lock, stand, other, NONE, ("need", way, lows)), "need")
        lock = (401, 1, 1, 0)
        way += (("to", 401, 1),)
        lows = ((("first", 0, None, (1, 1)), 401), (("low", 0, None, (1, 1)), 401))
        self.assertEqual(check_hours(lock, stand, (401, 0), NONE, ("need", way, lows)), "need")

    def test_one_thing_otherwise(self):
        for lock, stand, other, wants, paper in self.HOLD:
            bad = 0
            for tried in variants(paper):
                told = judge_need(lock, stand, other, wants, tried)
                if isinstance(told, str):
                    self.assertEqual(check_hours(lock, stand, other, wants, tried), told, tried)
                else:
                    bad += 1
                    self.refused(BadPaper, {"part": told[1]}, check_hours, lock, stand, other, wants, tried)
            self.assertGreater(bad, 10)

    def test_a_low_of_nought_or_below(self):
        lock, stand, other, wants, (word, way, lows) = self.HOLD[0]
        for many in (0, -1):
            paper = (word, way, (lows[0], (("high", 0, None, (1, 1)), many), lows[1]))
            self.refused(BadPaper, {"part": "need"}, check_hours, lock, stand, other, wants, paper)

    def test_form(self):
        for lock, stand, other, wants, paper in self.HOLD:
            wrong = OTHERS + [(), ("need",), ("need", ()), ("need", (), (), ()), ("never",), ("never", (), ()), (Ellipsis, ()),
                              ("other", ()), ("other", (), ()), list(paper), (None, (), ()), (b"never", ())]
            for thing in wrong:
                self.refused(BadPaper, {"part": "form"}, check_hours, lock, stand, other, wants, thing)

    def test_any_things_in_papers(self):
        lock, stand, other, wants, paper = self.HOLD[2]
        for thing in OTHERS:
            for tried in [("need", thing, ()), ("need", paper[1], thing), ("need", paper[1], (thing,)),
                          ("need", (thing,), paper[2]), ("need", paper[1], ((thing, 3),)),
                          ("need", paper[1], paper[2][:2] + ((paper[2][2][0], thing),))]:
                self.refused(BadPaper, {"part": "need"}, check_hours, lock, stand, other, wants, tried)
            for tried in [("never", thing), ("never", (thing,))]:
                self.refused(BadPaper, {"part": "never"}, check_hours, lock, stand, other, wants, tried)

    def test_one_hour_more_or_less(self):
        lock, stand, other = (2, 1, 2, 0), (0, 0), (2, 0)
        for many in (1, 2, 3):
            lows = ((("first", 0, None, (1, 1)), many), (("low", 0, None, (1, 1)), many))
            paper = ("need", (("to", 2, max(2, many)),), lows)
            if many == 2:
                self.assertEqual(check_hours(lock, stand, other, NONE, paper), "need")
            else:
                self.refused(BadPaper, {"part": "need"}, check_hours, lock, stand, other, NONE, paper)

    def test_never_both(self):
        for lock, stand, other, wants, paper in self.HOLD:
            everything = ("never", tuple(sorted(knots(lock, stand, wants))))
            if paper[0] == "need":
                self.refused(BadPaper, {"part": "never"}, check_hours, lock, stand, other, wants, everything)
            self.assertEqual(judge_need(lock, stand, other, wants, paper), paper[0])


if __name__ == "__main__":
    unittest.main()
