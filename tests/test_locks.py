import unittest

from lockkeeper.errors import BadHour, BadLock, BadNumber, BadStand
from lockkeeper.locks import after_hour, is_hour, need_lock, need_stand, straight_hours, turned
from tests.asking import Asking
from tests.plain import OTHERS, after, hours_at, stands, straight

BIG = 10 ** 30
LOCK = (10, 3, 2, 2)


class NeedLock(Asking):

    def test_a_lock_is_itself(self):
        for lock in [LOCK, (0, 1, 1, 0), (BIG, BIG, BIG, 2), (0, BIG, 1, 1), (5, 1, 9, 0)]:
            self.assertIs(need_lock(lock), lock)
            self.assertIs(need_lock(thing=lock), lock)

    def test_form(self):
        for thing in OTHERS + [(), (1,), (1, 1, 1), (1, 1, 1, 1, 1), [10, 3, 2, 2], 4]:
            self.refused(BadLock, {"part": "form"}, need_lock, thing)

    def test_each_part(self):
        for at, (part, wrong) in enumerate([("top", (-1, BIG + 1)), ("up", (0, -1, BIG + 1)),
                                            ("down", (0, -1, BIG + 1)), ("room", (-1, 3))]):
            for thing in list(wrong) + OTHERS + [(), (1,), 10 ** 900]:
                self.refused(BadLock, {"part": part}, need_lock, LOCK[:at] + (thing,) + LOCK[at + 1:])

    def test_the_first_wrong_part_is_told(self):
        self.refused(BadLock, {"part": "top"}, need_lock, (-1, 0, 0, 3))
        self.refused(BadLock, {"part": "up"}, need_lock, (0, 0, 0, 3))
        self.refused(BadLock, {"part": "down"}, need_lock, (0, 1, None, True))
        self.refused(BadLock, {"part": "up"}, need_lock, (1, True, 1, 1))

    def test_a_wrong_lock_is_refused_by_all(self):
        for call in (lambda lock: need_stand(lock, None), lambda lock: is_hour(lock, None, None),
                     lambda lock: after_hour(lock, None, None), turned, lambda lock: straight_hours(lock, None, None)):
            for thing in OTHERS:
                self.refused(BadLock, {"part": "form"}, call, thing)
            self.refused(BadLock, {"part": "room"}, call, (1, 1, 1, True))


class Stands(Asking):

    def test_a_stand_is_itself(self):
        for lock, stand in [(LOCK, (0, 0)), (LOCK, (10, 2)), ((0, 1, 1, 0), (0, 0)), ((BIG, 1, 1, 1), (BIG, 1))]:
            self.assertIs(need_stand(lock, stand), stand)
            self.assertIs(need_stand(thing=stand, lock=lock), stand)

    def test_what_is_none(self):
        wrong = OTHERS + [(), (1,), (1, 1, 1), (-1, 0), (11, 0), (0, -1), (0, 3), [0, 0], (True, 0), (0, True)]
        for thing in wrong + [(other, 0) for other in OTHERS] + [(0, other) for other in OTHERS]:
            self.refused(BadStand, {"given": thing}, need_stand, LOCK, thing)
            self.refused(BadStand, {"given": thing}, is_hour, LOCK, thing, ("water", 0))
            self.refused(BadStand, {"given": thing}, after_hour, LOCK, thing, None)
        self.refused(BadStand, {"given": (0, 1)}, need_stand, (0, 1, 1, 0), (0, 1))


class Hours(Asking):

    def test_all_small_hours(self):
        for lock in [(0, 1, 2, 2), (3, 2, 1, 1), (4, 1, 3, 2), (2, 5, 5, 0)]:
            for stand in stands(lock):
                right = hours_at(lock, stand)
                asked = [("water", level) for level in range(-2, 8)]
                asked += [(gate, out, come) for gate in ("upper", "lower")
                          for out in range(-1, 4) for come in range(-1, 6)]
                for hour in asked:
                    self.assertIs(is_hour(lock, stand, hour), hour in right, (lock, stand, hour))
                    if hour in right:
                        self.told(after(stand, hour), after_hour(lock, stand, hour))
                    else:
                        self.refused(BadHour, {"given": hour}, after_hour, lock, stand, hour)

    def test_both_gates_at_the_top_0(self):
        lock = (0, 1, 1, 2)
        self.told((0, 1), after_hour(lock, (0, 2), ("upper", 2, 1)))
        self.told((0, 2), after_hour(lock, (0, 0), ("lower", 0, 2)))

    def test_great_levels(self):
        lock = (BIG, BIG, BIG - 1, 2)
        self.told((BIG, 1), after_hour(lock, (0, 1), ("water", BIG)))
        self.told((1, 1), after_hour(lock=lock, stand=(BIG, 1), hour=("water", 1)))
        self.assertIs(is_hour(lock, (BIG, 1), ("water", 0)), False)
        self.assertIs(is_hour(lock=lock, stand=(BIG, 1), thing=("upper", 1, 2)), True)

    def test_other_things_are_no_hours(self):
        for stand in [(0, 1), (10, 1), (5, 1)]:
            for thing in OTHERS + [(), ("water",), ("water", 5, 0), ("upper", 0), ("lower", 0), ["water", 5], ("to", 5, 1),
                                   ("water ", 5), ("Water", 5), ("upper", 0, 0, 0), (b"water", 5)]:
                self.assertIs(is_hour(LOCK, stand, thing), False)
                self.refused(BadHour, {"given": thing}, after_hour, LOCK, stand, thing)
            for other in OTHERS:
                for thing in [("water", other), ("upper", other, 0), ("upper", 0, other), ("lower", other, 0),
                              ("lower", 0, other), (other, 5), (other, 0, 0)]:
                    self.assertIs(is_hour(LOCK, stand, thing), False)


class Others(Asking):

    def test_turned(self):
        self.told((10, 2, 3, 2), turned(LOCK))
        self.told(LOCK, turned(lock=turned(lock=LOCK)))

    def test_straight_hours(self):
        for lock in [(9, 1, 1, 0), (9, 3, 2, 0), (9, 20, 4, 0)]:
            for level in range(10):
                for far in range(10):
                    self.told(straight(lock, level, far), straight_hours(lock, level, far))
        self.told(BIG, straight_hours((BIG, 1, BIG, 0), 0, BIG))
        self.told(1, straight_hours(lock=(BIG, 1, BIG, 0), level=BIG, far=0))
        self.told(2, straight_hours((BIG, BIG - 1, 1, 0), 0, BIG))

    def test_straight_hours_of_no_levels(self):
        for thing in OTHERS + [-1, 11, (5,)]:
            self.refused(BadNumber, {"given": thing}, straight_hours, LOCK, thing, "far")
            self.refused(BadNumber, {"given": thing}, straight_hours, LOCK, 0, thing)


if __name__ == "__main__":
    unittest.main()
