import unittest

from lockkeeper.clocks import does_fit, need_clock, residue_behind
from lockkeeper.errors import BadClock, BadNumber
from tests.asking import Asking
from tests.plain import OTHERS

CLOCK = ((1, 5, 0), 2, 1)
TWELVE = (tuple(range(1, 13)), 0, 0)


class Clocks(Asking):

    def test_a_clock_is_itself(self):
        for clock in [CLOCK, TWELVE, ((0,), 0, 0), ((24,) * 12, 24, 24)]:
            self.assertIs(need_clock(clock), clock)
            self.assertIs(need_clock(thing=clock), clock)

    def test_form(self):
        for call in (need_clock, lambda clock: does_fit(clock, None, None), lambda clock: residue_behind(clock, None, None)):
            for thing in OTHERS + [(), ((1,), 0), ((1,), 0, 0, 0), [(1,), 0, 0]]:
                self.refused(BadClock, {"part": "form"}, call, thing)
            self.refused(BadClock, {"part": "added"}, call, ((1,), 0, True))

    def test_each_part(self):
        for thing in OTHERS + [(), (1,) * 13, (25,), (-1,), (0, True), [1, 2], 5]:
            self.refused(BadClock, {"part": "strokes"}, need_clock, (thing, 0, 0))
            self.refused(BadClock, {"part": "strokes"}, need_clock, (thing, None, 25))
        for thing in OTHERS + [-1, 25, (1,)]:
            self.refused(BadClock, {"part": "strokes"}, need_clock, ((1, thing), 0, 0))
            self.refused(BadClock, {"part": "missed"}, need_clock, ((1,), thing, 99))
            self.refused(BadClock, {"part": "added"}, need_clock, ((1,), 0, thing))

    def test_does_fit(self):
        for clock in [CLOCK, ((3,), 0, 0), ((24, 0), 24, 24), ((24, 7), 0, 24), (TWELVE[0], 24, 0)]:
            strokes, missed, added = clock
            for residue, struck in enumerate(strokes):
                for heard in range(100):
                    well = heard in range(struck - missed, struck + added + 1)
                    self.assertIs(does_fit(clock, heard, residue), well)
                self.assertIs(does_fit(clock=clock, heard=None, residue=residue), True)

    def test_wrong_numbers_in_turn(self):
        for thing in OTHERS[1:] + [-1, 100, (1,)]:
            self.refused(BadNumber, {"given": thing}, does_fit, CLOCK, thing, 99)
        for thing in OTHERS + [-1, 3, (1,)]:
            self.refused(BadNumber, {"given": thing}, does_fit, CLOCK, None, thing)
            self.refused(BadNumber, {"given": thing}, residue_behind, CLOCK, thing, -5)
        for thing in OTHERS + [-1, (1,)]:
            self.refused(BadNumber, {"given": thing}, residue_behind, CLOCK, 2, thing)

    def test_residue_behind(self):
        for residue in range(3):
            for hours in range(10):
                self.told((residue + hours) % 3, residue_behind(CLOCK, residue, hours))
        self.told(0, residue_behind(((5,), 0, 0), 0, 10 ** 900))
        self.told((7 + 10 ** 30) % 12, residue_behind(clock=TWELVE, residue=7, hours=10 ** 30))


if __name__ == "__main__":
    unittest.main()
