import unittest

from lockkeeper.errors import BadLock, BadWants
from lockkeeper.locks import turned
from lockkeeper.wants import need_wants, wants_backwards, wants_overturned
from tests.asking import Asking
from tests.plain import OTHERS

LOCK = (10, 3, 2, 2)
GOOD = [(None, None), ((0, 10), None), (None, (0, 1, 2, 0)), ((4, 4), (2, 2, 2, 2)), ((3, 7), (0, 0, 0, 0))]


class Wants(Asking):

    def test_wants_are_themselves(self):
        for wants in GOOD:
            self.assertIs(need_wants(LOCK, wants), wants)
            self.assertIs(need_wants(lock=LOCK, thing=wants), wants)
        self.assertTrue(need_wants((0, 1, 1, 0), ((0, 0), (2, 0, 0, 2))))
        self.assertTrue(need_wants((10 ** 30, 1, 1, 0), ((0, 10 ** 30), None)))

    def test_form(self):
        for call in (need_wants, wants_backwards, wants_overturned):
            for thing in OTHERS + [(), (None,), (None, None, None), [None, None]]:
                self.refused(BadWants, {"part": "form"}, call, LOCK, thing)

    def test_marks(self):
        wrong = OTHERS[1:] + [(), (1,), (1, 2, 3), (5, 4), (-1, 4), (4, 11), [4, 5], (True, 5), (0, True)]
        for call in (need_wants, wants_backwards, wants_overturned):
            for thing in wrong + [(other, 5) for other in OTHERS] + [(5, other) for other in OTHERS]:
                self.refused(BadWants, {"part": "marks"}, call, LOCK, (thing, None))
                self.refused(BadWants, {"part": "marks"}, call, LOCK, (thing, 7))

    def test_passed(self):
        wrong = OTHERS[1:] + [(), (1,), (1, 1, 1), (0,) * 5, [0, 0, 0, 0], (0, 0, 0, 3), (-1, 0, 0, 0), (0, 3, 0, 0)]
        wrong += [(0,) * at + (other,) + (0,) * (3 - at) for other in OTHERS + [-1, 3] for at in range(4)]
        for call in (need_wants, wants_backwards, wants_overturned):
            for thing in wrong:
                self.refused(BadWants, {"part": "passed"}, call, LOCK, (None, thing))

    def test_the_lock_comes_first(self):
        for call in (need_wants, wants_backwards, wants_overturned):
            self.refused(BadLock, {"part": "form"}, call, None, None)
            self.refused(BadLock, {"part": "down"}, call, (1, 1, 0, 5), (None, None))

    def test_turned_ones(self):
        wants = ((3, 8), (0, 1, 2, 1))
        self.told(((3, 8), (1, 0, 1, 2)), wants_backwards(LOCK, wants))
        self.told(((2, 7), (2, 1, 0, 1)), wants_overturned(LOCK, wants))
        self.told((None, None), wants_backwards(lock=LOCK, wants=(None, None)))
        self.told((None, None), wants_overturned(lock=LOCK, wants=(None, None)))

    def test_twice_they_are_the_first_ones(self):
        for wants in GOOD:
            for call in (wants_backwards, wants_overturned):
                self.told(wants, call(turned(LOCK), call(LOCK, wants)))


if __name__ == "__main__":
    unittest.main()
