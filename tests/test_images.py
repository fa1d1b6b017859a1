import random
import unittest

from lockkeeper.errors import BadLock, BadLot, BadNumber, BadWants
from lockkeeper.images import image, origin
from lockkeeper.locks import turned
from lockkeeper.needs import least_hours
from lockkeeper.stretches import empty_lot, has_stand, is_lot_within, lot_of, need_lot, whole_lot
from lockkeeper.wants import wants_backwards
from tests.asking import Asking
from tests.plain import OTHERS, ends_by_hours, lot_by_stands, needs_from, stands
from tests.small import LOCKS, wants_of

BIG = 10 ** 30
LOCK = (10, 3, 2, 1)
NONE = (None, None)


def lots_of(lock, chance):
    """Sets of STANDS: none, all, some."""
    everything = stands(lock)
    return [set(), set(everything), {chance.choice(everything)}] + [
        {stand for stand in everything if chance.random() < 0.4} for _ in range(2)]


class Images(Asking):

    def test_against_all_courses(self):
        chance = random.Random(5)
        for lock in LOCKS:
            for wants in wants_of(lock):
                for some in lots_of(lock, chance):
                    told = ends_by_hours(lock, some, wants, 9)
                    for hours in (0, 1, 2, 3, 5, 9):
                        self.told(lot_by_stands(lock, told[hours]), image(lock, lot_by_stands(lock, some), wants, hours))

    def test_origins_against_all_courses(self):
        chance = random.Random(6)
        for lock in LOCKS:
            for wants in wants_of(lock)[::2]:
                for some in lots_of(lock, chance):
                    for hours in (0, 1, 2, 4, 8, 40):
                        those = {stand for stand in stands(lock)
                                 if any(need <= hours for other, need in needs_from(lock, stand, wants).items() if other in some)}
                        self.told(lot_by_stands(lock, those), origin(lock, lot_by_stands(lock, some), wants, hours))

    def test_what_is_told(self):
        lot = (((4, 5),), ())
        self.told(lot, image(LOCK, lot, NONE, 0))
        self.told((((2, 8),), ()), image(LOCK, lot, (None, (0, 0, 0, 0)), 1))
        self.told((((1, 7),), ()), origin(lock=LOCK, lot=lot, wants=(None, (0, 0, 0, 0)), hours=1))
        self.told((((0, 10),), ((0, 3), (8, 10))), image(lock=LOCK, lot=lot, wants=NONE, hours=4))
        self.told((((5, 5),), ()), image(LOCK, lot, ((5, 5), None), 7))
        self.told(((), ()), image(LOCK, lot, ((6, 7), None), BIG))
        self.told(whole_lot(LOCK), image(LOCK, lot, NONE, BIG))
        self.told(empty_lot(LOCK), image(LOCK, empty_lot(LOCK), NONE, BIG))
        self.told(whole_lot((0, 1, 1, 2)), image((0, 1, 1, 2), lot_of((0, 1, 1, 2), ((0, 0),)), NONE, 1))

    def test_three_ranges(self):
        lock = (100, 10, 10, 2)
        lot = (((20, 20), (80, 80)), (), ())
        # Down and up again with a boat more: 2 HOURS, one at the gate, the rest back.
        self.told(((0, 20), (80, 100)), image(lock, lot, NONE, 5)[1])
        self.told(((0, 40), (60, 100)), image(lock, lot, (None, (0, 0, 0, 0)), 2)[0])
        lot = (((20, 20), (80, 80)), ((0, 0), (100, 100)), ())
        self.told(((0, 0), (10, 30), (70, 90), (100, 100)), image(lock, lot, NONE, 1)[0])

    def test_facts(self):
        chance = random.Random(8)
        for lock in LOCKS:
            for wants in wants_of(lock)[::3]:
                back = wants_backwards(lock, wants)
                for some in lots_of(lock, chance):
                    lot = lot_by_stands(lock, some)
                    last = empty_lot(lock)
                    for hours in range(12):
                        told = image(lock, lot, wants, hours)
                        self.assertIs(need_lot(lock, told), told)
                        self.assertTrue(is_lot_within(lock, last, told))
                        self.told(origin(lock, lot, wants, hours), image(turned(lock), lot, back, hours))
                        last = told

    def test_great_locks_by_needs(self):
        for lock in [(BIG, 1, 1, 1), (BIG, 10 ** 29, 3 * 10 ** 28, 2), (BIG, BIG, 1, 0), (BIG, 7, BIG, 2)]:
            for wants in [NONE, (None, (1, 0, 0, 1)), ((0, BIG), None), ((5, BIG // 2), (0, 0, 0, 0)), ((0, BIG // 3), (0, 0, 1, 0)),
                          ((0, BIG), (2, 2, 2, 2))]:
                for hours in (0, 3, 30, 10 ** 29, BIG - 1, BIG):
                    start = (BIG // 4, 0)
                    told = image(lock, lot_of(lock, (start,)), wants, hours)
                    self.assertIs(need_lot(lock, told), told)
                    back = origin(lock, lot_of(lock, (start,)), wants, hours)
                    self.edges(lock, told, lambda stand: least_hours(lock, start, stand, wants), hours)
                    self.edges(lock, back, lambda stand: least_hours(lock, stand, start, wants), hours)

    def edges(self, lock, lot, need_of, hours):
        """Asks at the edges of all ranges, and beside them, whether NEEDS tell the same."""
        for boats, part in enumerate(lot):
            levels = {0, 1, lock[0] // 4, lock[0] // 2, lock[0]}
            for low, high in part:
                levels |= {low - 1, low, low + 1, high - 1, high, high + 1}
            for level in levels:
                if 0 <= level <= lock[0]:
                    need = need_of((level, boats))
                    self.assertIs(has_stand(lock, lot, (level, boats)), need is not None and need <= hours)

    def test_wrong_arguments_in_turn(self):
        lot = whole_lot(LOCK)
        for call in (image, origin):
            self.refused(BadLock, {"part": "form"}, call, None, None, None, None)
            self.refused(BadLot, {"given": None}, call, LOCK, None, None, None)
            self.refused(BadLot, {"given": ((), (), ())}, call, LOCK, ((), (), ()), None, None)
            self.refused(BadWants, {"part": "form"}, call, LOCK, lot, None, None)
            self.refused(BadWants, {"part": "passed"}, call, LOCK, lot, (None, ()), None)
            for hours in OTHERS + [-1, BIG + 1]:
                self.refused(BadNumber, {"given": hours}, call, LOCK, lot, NONE, hours)


if __name__ == "__main__":
    unittest.main()
