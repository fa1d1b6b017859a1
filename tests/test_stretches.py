import random
import unittest

from lockkeeper.errors import BadLock, BadLot, BadStand
from lockkeeper.stretches import (
    both_lots, either_lot, empty_lot, has_stand, is_lot_within, least_stand, lot_of, many_stands, need_lot,
    other_stands, whole_lot)
from tests.asking import Asking
from tests.plain import OTHERS, lot_by_stands, stands, stands_in
from tests.small import LOCKS

BIG = 10 ** 30
LOCK = (10, 3, 2, 1)
LOT = (((0, 2), (4, 4)), ((10, 10),))
WRONG = OTHERS + [(), ((),), ((), (), ()), [(), ()], ((), []), ([], ()), (((0, 2), (3, 4)), ()), (((4, 4), (0, 2)), ()),
                  (((0, 2), (2, 4)), ()), (((2, 0),), ()), (((-1, 0),), ()), (((0, 11),), ()), (((0,),), ()), ((0, 2), ()),
                  (((0, 1, 2),), ()), (((False, 1),), ()), (((0, True),), ()), (([0, 1],), ()), ((), ((0, 2), (0, 2))),
                  ((), ((0, 2), (1, 5))), ((), ((0, 1.0),))]


def lots_by_chance(many):
    chance = random.Random(3)
    for _ in range(many):
        lock = chance.choice(LOCKS + [LOCK, (9, 1, 1, 2)])
        share = chance.choice((0.0, 0.2, 0.5, 0.8, 1.0))
        some = [{stand for stand in stands(lock) if chance.random() < share} for _ in range(2)]
        yield lock, some[0], some[1]


class Lots(Asking):

    def test_a_lot_is_itself(self):
        for lock, lot in [(LOCK, LOT), (LOCK, ((), ())), ((0, 1, 1, 2), (((0, 0),), (), ((0, 0),))),
                          ((BIG, 1, 1, 0), (((0, 0), (2, BIG - 2), (BIG, BIG)),))]:
            self.assertIs(need_lot(lock, lot), lot)
            self.assertIs(need_lot(lock=lock, thing=lot), lot)

    def test_what_is_none(self):
        for thing in WRONG + [((), (other,)) for other in OTHERS] + [((), ((other, 5),)) for other in OTHERS]:
            self.refused(BadLot, {"given": thing}, need_lot, LOCK, thing)
            self.refused(BadLot, {"given": thing}, has_stand, LOCK, thing, None)
            self.refused(BadLot, {"given": thing}, other_stands, LOCK, thing)
            self.refused(BadLot, {"given": thing}, many_stands, LOCK, thing)
            self.refused(BadLot, {"given": thing}, least_stand, LOCK, thing)
            for call in (both_lots, either_lot, is_lot_within):
                self.refused(BadLot, {"given": thing}, call, LOCK, thing, None)
                self.refused(BadLot, {"given": thing}, call, LOCK, LOT, thing)

    def test_a_wrong_lock_comes_first(self):
        for call, more in [(need_lot, 1), (whole_lot, 0), (empty_lot, 0), (lot_of, 1), (has_stand, 2), (both_lots, 2),
                           (either_lot, 2), (other_stands, 1), (is_lot_within, 2), (many_stands, 1), (least_stand, 1)]:
            self.refused(BadLock, {"part": "form"}, call, *[None] * (more + 1))
            self.refused(BadLock, {"part": "up"}, call, (1, True, 1, 1), *[None] * more)

    def test_whole_and_empty(self):
        self.told((((0, 10),), ((0, 10),)), whole_lot(LOCK))
        self.told(((), ()), empty_lot(LOCK))
        self.told((((0, 0),),), whole_lot(lock=(0, 1, 1, 0)))
        self.told(((), (), ()), empty_lot(lock=(BIG, 1, 1, 2)))
        self.told((((0, BIG),),) * 3, whole_lot((BIG, 1, 1, 2)))

    def test_lot_of(self):
        self.told(((), ()), lot_of(LOCK, ()))
        self.told((((0, 2), (4, 4)), ((10, 10),)), lot_of(LOCK, ((4, 0), (2, 0), (10, 1), (0, 0), (1, 0), (2, 0))))
        self.told((((0, 1), (BIG, BIG)),), lot_of(lock=(BIG, 1, 1, 0), stands=((BIG, 0), (1, 0), (0, 0))))
        for thing in OTHERS + [[(0, 0)], 5]:
            self.refused(BadStand, {"given": thing}, lot_of, LOCK, thing)
            self.refused(BadStand, {"given": thing}, lot_of, LOCK, ((0, 0), thing, (0, 9)))
        self.refused(BadStand, {"given": (0, 2)}, lot_of, LOCK, ((0, 0), (0, 2), (11, 0)))
        self.refused(BadStand, {"given": (True, 0)}, lot_of, LOCK, ((True, 0),))

    def test_has_stand(self):
        for thing in OTHERS + [(11, 0), (0, 2), (0, True)]:
            self.refused(BadStand, {"given": thing}, has_stand, LOCK, LOT, thing)
        self.assertIs(has_stand(lock=LOCK, lot=LOT, stand=(4, 0)), True)
        self.assertIs(has_stand(lock=LOCK, lot=LOT, stand=(3, 0)), False)

    def test_side_by_side_and_one_level_between(self):
        one, near, far = (((2, 4),), ()), (((5, 6),), ()), (((6, 7),), ())
        self.told((((2, 6),), ()), either_lot(LOCK, one, near))
        self.told((((2, 4), (6, 7)), ()), either_lot(lock=LOCK, lot=one, another=far))
        self.told((((0, 4), (6, 10)), ((0, 10),)), other_stands(LOCK, (((5, 5),), ())))
        self.told((((6, 6),), ()), both_lots(lock=LOCK, lot=near, another=far))

    def test_against_sets_of_stands(self):
        for lock, one, other in lots_by_chance(400):
            lot, another = lot_by_stands(lock, one), lot_by_stands(lock, other)
            self.told(lot, lot_of(lock, tuple(sorted(one, reverse=True))))
            self.told(lot_by_stands(lock, one & other), both_lots(lock, lot, another))
            self.told(lot_by_stands(lock, one | other), either_lot(lock, lot, another))
            self.told(lot_by_stands(lock, set(stands(lock)) - one), other_stands(lock, lot))
            self.assertIs(is_lot_within(lock, lot, another), one <= other)
            self.assertIs(is_lot_within(lock, both_lots(lock, lot, another), another), True)
            self.told(len(one), many_stands(lock, lot))
            self.told(min(one, default=None), least_stand(lock, lot))
            for stand in stands(lock):
                self.assertIs(has_stand(lock, lot, stand), stand in one)
            self.assertEqual(stands_in(lot), one)

    def test_great_lots(self):
        lock = (BIG, 1, 1, 1)
        lot = (((0, BIG // 2), (BIG, BIG)), ((7, 9),))
        self.told(BIG // 2 + 5, many_stands(lock=lock, lot=lot))
        self.told((((BIG // 2 + 1, BIG - 1),), ((0, 6), (10, BIG))), other_stands(lock=lock, lot=lot))
        self.told((0, 0), least_stand(lock=lock, lot=lot))
        self.told((6, 1), least_stand(lock, (((7, BIG),), ((6, 9),))))
        self.told((7, 0), least_stand(lock, (((7, BIG),), ((7, 9),))))
        self.told(2 * BIG + 2, many_stands(lock, whole_lot(lock)))
        self.assertIs(is_lot_within(lock=lock, lot=lot, another=whole_lot(lock)), True)
        self.assertIs(is_lot_within(lock, whole_lot(lock), lot), False)
        self.told(empty_lot(lock), other_stands(lock, whole_lot(lock)))


if __name__ == "__main__":
    unittest.main()
