import itertools
import random
import unittest

from lockkeeper.errors import BadLock, BadNumber, BadTask
from lockkeeper.tasks import (
    fewest_hours, front, hours_by, is_done, keeps_up, least_changes, least_period, least_waits, need_task, task_overturned,
    waits_by)
from tests import plaintasks
from tests.asking import Asking
from tests.plain import OTHERS, straight
from tests.somebooks import BIG, ONE

LOCKS = [(0, 1, 1, 1), (0, 1, 2, 2), (1, 1, 1, 2), (2, 1, 2, 1), (2, 1, 2, 2), (3, 2, 1, 2), (2, 1, 1, 0), (0, 1, 1, 0)]
TASK = ((10, 3, 2, 2), "upper", (5, 3), (1, 0))
GREAT = (BIG, 3, BIG, 2)


def insides(lock):
    return [inside for inside in itertools.product(range(lock[3] + 1), repeat=2) if sum(inside) <= lock[3]]


def tasks_of(lock, most):
    return [(lock, place, waiting, inside) for place in ("upper", "lower")
            for waiting in itertools.product(range(most + 1), repeat=2) for inside in insides(lock)]


SMALL = [task for lock in LOCKS for task in tasks_of(lock, 3)]
LARGER = random.Random(60).sample([task for lock in LOCKS for task in tasks_of(lock, 5)], 120)


def scaled_task(task, times):
    (top, up, down, room), place, waiting, inside = task
    return (top * times, up * times, down * times, room), place, waiting, inside


class Tasks(Asking):

    def test_against_all_courses(self):
        for task in SMALL + LARGER:
            self.told(plaintasks.is_done((0, *task[2:], None, None)), is_done(task=task))
            for beginning in ("own", "other"):
                hours, waits, down, up = [plaintasks.least_by(task, kind, beginning) for kind in ("hours", "waits", "down", "up")]
                if hours is None:
                    for call in (hours_by, waits_by, least_changes):
                        self.told(None, call(task, beginning))
                else:
                    self.told(hours[0], hours_by(task=task, beginning=beginning))
                    self.told(waits[0], waits_by(task=task, beginning=beginning))
                    self.told((down[0], up[0]), least_changes(task=task, beginning=beginning))
                    # Some COURSE has the least HOURS and the least WAITS at once, and the least CHANGES of both kinds.
                    self.assertEqual((hours[1], down[1]), (waits[0], up[0]))
            self.told(plaintasks.fewest_hours(task), fewest_hours(task=task))
            self.told(plaintasks.least_waits(task), least_waits(task=task))

    def test_upside_down(self):
        for task in SMALL + LARGER:
            over = task_overturned(task=task)
            self.told(task, task_overturned(over))
            self.told(fewest_hours(task), fewest_hours(over))
            self.told(least_waits(task), least_waits(over))
            for beginning in ("own", "other"):
                self.told(hours_by(task, beginning), hours_by(over, beginning))
                self.told(waits_by(task, beginning), waits_by(over, beginning))
                changes = least_changes(task, beginning)
                self.told(changes and changes[::-1], least_changes(over, beginning))
        self.told(((10, 2, 3, 2), "lower", (3, 5), (0, 1)), task_overturned(TASK))

    def test_what_is_told(self):
        # F is 5, R is 4. Down go 1 and 1, 2, 2; up go 2, 1.
        self.told((3, 2), least_changes(TASK, "own"))
        self.told(29, hours_by(TASK, "own"))
        self.told((4, 3), least_changes(TASK, "other"))
        self.told(39, hours_by(TASK, "other"))
        self.told(29, fewest_hours(TASK))
        # Gates at 1, 7, 12, 18, 23, 29; down go 2 at 7, 18 and 29, up 2 at 12 and 1 at 23.
        self.told(2 * 7 + 2 * 18 + 2 * 29 + 2 * 12 + 23, waits_by(TASK, "own"))
        self.told(155, least_waits(TASK))
        # Gates at 6, 11, 17, 22, 28, 33, 39.
        self.told(6 + 2 * 11 + 2 * 17 + 22 + 2 * 28 + 39, waits_by(TASK, "other"))

    def test_done_ones(self):
        for lock in LOCKS + [GREAT]:
            for place in ("upper", "lower"):
                task = (lock, place, (0, 0), (0, 0))
                change = (1, 0) if place == "upper" else (0, 1)
                lift = straight(lock, lock[0], 0) if place == "upper" else straight(lock, 0, lock[0])
                self.told(True, is_done(task))
                self.told(0, fewest_hours(task))
                self.told(0, least_waits(task))
                self.told((0, 0), least_changes(task, "own"))
                self.told(1, hours_by(task, "own"))
                self.told(change, least_changes(task, "other"))
                self.told(lift + 1, hours_by(task, "other"))
                self.told([0, 0], [waits_by(task, beginning) for beginning in ("own", "other")])

    def test_no_room(self):
        for lock in LOCKS:
            task = (lock[:3] + (0,), "lower", (0, 1), (0, 0))
            self.told([None] * 5, [fewest_hours(task), least_waits(task), hours_by(task, "own"), waits_by(task, "other"), least_changes(task, "own")])
            self.told(False, is_done(task))

    def test_the_other_beginning(self):
        # All that wait are below: to them first. The one above is at the lower gate sooner so, too.
        task = ((5, 1, 1, 1), "upper", (0, 1), (1, 0))
        self.told((13, 12), (hours_by(task, "own"), hours_by(task, "other")))
        self.told(12, fewest_hours(task))
        self.told(18, least_waits(task))
        # In fewer HOURS by the one BEGINNING, with less WAITS by the other one.
        odd = [task for task in SMALL if fewest_hours(task) and
               (hours_by(task, "own") < hours_by(task, "other")) is not (waits_by(task, "own") < waits_by(task, "other"))
               and hours_by(task, "own") != hours_by(task, "other") and waits_by(task, "own") != waits_by(task, "other")]
        self.assertTrue(odd)

    def test_great_numbers(self):
        half = BIG // 2
        task = ((0, 1, 1, 2), "upper", (BIG, BIG), (0, 0))
        self.told((half, half), least_changes(task, "own"))
        self.told(BIG + 1, fewest_hours(task))
        # Up go 2 each at 3, 5, ..., down 2 each at 2, 4, ...
        self.told(2 * (half * (half + 1) + half * (half + 2)), least_waits(task))
        lift = straight(GREAT, 0, BIG) + 1
        self.told(half * 2 + half * lift + 1, fewest_hours((GREAT, "upper", (BIG, BIG), (0, 0))))
        self.told(half * 2 + half * lift + 1, fewest_hours((GREAT, "lower", (BIG, BIG), (0, 0))))
        for task in SMALL[::7]:
            great = scaled_task(task, 10 ** 29)
            self.told(fewest_hours(task), fewest_hours(great))
            self.told(least_waits(task), least_waits(great))

    def test_many_boats_one_by_one(self):
        """The WAITS grow by one load as plainly told: of N loads more the least ones are a sum."""
        lock = (3, 2, 1, 2)
        for many in range(0, 40):
            own = sum(2 * (5 + 7 * load) for load in range(many // 2)) + (many % 2) * (5 + 7 * (many // 2))
            self.told(own, waits_by((lock, "upper", (many, 0), (0, 0)), "own") if many else 0)


class Fronts(Asking):

    def test_against_all_courses(self):
        asked = 0
        for lock in LOCKS:
            for place in ("upper", "lower"):
                for inside in insides(lock):
                    for hours in range(9):
                        told = front(lock=lock, place=place, inside=inside, hours=hours)
                        most = max([max(pair) for pair in told], default=0)
                        if most <= 4:
                            asked += 1
                            self.told(plaintasks.front(lock, place, inside, hours, most), told)
        self.assertGreater(asked, 400)

    def test_what_a_front_is(self):
        chance = random.Random(61)
        for hours in list(range(1, 60)) + [BIG - at for at in range(20)]:
            for lock in ((10, 3, 2, 2), (0, 1, 1, 1), GREAT):
                place, inside = chance.choice(("upper", "lower")), chance.choice(insides(lock))
                pairs = front(lock, place, inside, hours)
                self.assertLessEqual(len(pairs), 2)
                for above, below in pairs:
                    if max(above, below) < BIG:
                        self.assertLessEqual(fewest_hours((lock, place, (above, below), inside)), hours)
                        self.assertGreater(fewest_hours((lock, place, (above + 1, below), inside)), hours)
                        self.assertGreater(fewest_hours((lock, place, (above, below + 1), inside)), hours)

    def test_edges(self):
        self.told(((0, 0),), front((5, 1, 1, 2), "upper", (0, 0), 0))
        self.told((), front((5, 1, 1, 2), "upper", (1, 0), 0))
        self.told(((0, 0),), front((5, 1, 1, 0), "lower", (0, 0), BIG))
        self.told(((0, 0),), front((5, 1, 1, 2), "upper", (0, 1), 1))
        self.told(((1, 0),), front((5, 1, 1, 1), "upper", (0, 0), 7))
        self.told(((0, 1), (1, 0)), front((5, 1, 1, 1), "upper", (0, 0), 12))
        pairs = front((0, 1, 1, 2), "upper", (0, 0), BIG)
        # By "own" an odd number of HOURS is left behind the first one: for one load more of those above.
        self.told(((BIG - 2, BIG), (BIG, BIG - 2)), pairs)

    def test_wrong_arguments(self):
        for thing in OTHERS:
            self.refused(BadLock, {"part": "form"}, front, thing, None, None, None)
            self.refused(BadTask, {"part": "place"}, front, ONE, thing, None, None)
            self.refused(BadTask, {"part": "inside"}, front, ONE, "upper", thing, None)
            self.refused(BadNumber, {"given": thing}, front, ONE, "upper", (0, 0), thing)
        for thing in [(-1, 0), (0, -1), (1, 1), (2, 0), (True, 0), (0, False), (0,), (0, 0, 0), [0, 0]]:
            self.refused(BadTask, {"part": "inside"}, front, ONE, "lower", thing, -1)
        for thing in (-1, BIG + 1, True):
            self.refused(BadNumber, {"given": thing}, front, ONE, "lower", (0, 1), thing)


class Streams(Asking):

    def test_against_all_courses(self):
        told = {True: 0, False: 0}
        for lock in [(0, 1, 1, 1), (1, 1, 1, 1), (0, 1, 1, 2), (1, 1, 1, 0), (2, 1, 2, 1), (1, 1, 1, 2)]:
            for coming in [(0, 0), (1, 0), (0, 1), (1, 1), (2, 1), (2, 2)]:
                for period in range(1, 8):
                    worth = plaintasks.lasts(lock, period, coming, 4)
                    told[worth] += 1
                    self.assertIs(worth, keeps_up(lock=lock, period=period, coming=coming))
        self.assertGreater(min(told.values()), 80)

    def test_least_periods(self):
        for lock in LOCKS + [(10, 3, 2, 2), GREAT]:
            for coming in itertools.product((0, 1, 2, 7, BIG), repeat=2):
                least = least_period(lock=lock, coming=coming)
                if coming == (0, 0):
                    self.told(1, least)
                elif lock[3] == 0:
                    self.told(None, least)
                    self.assertIs(keeps_up(lock, BIG, coming), False)
                elif least <= BIG:
                    self.assertIs(keeps_up(lock, least, coming), True)
                    self.assertIs(least > 1 and keeps_up(lock, least - 1, coming), False)
        self.told(11, least_period((10, 3, 2, 1), (1, 1)))
        self.told(6, least_period((10, 3, 2, 2), (0, 1)))
        self.told(BIG * BIG + 3 * BIG, least_period((BIG, BIG, 1, 1), (BIG, 0)))
        self.told(True, keeps_up((0, 1, 1, 2), 1, (1, 1)))
        self.told(False, keeps_up((0, 1, 1, 2), 1, (1, 2)))
        self.told(True, keeps_up((0, 1, 1, 2), BIG, (BIG, BIG)))
        self.told(False, keeps_up((1, 1, 1, 2), BIG, (BIG, 0)))

    def test_wrong_arguments(self):
        for thing in OTHERS:
            self.refused(BadLock, {"part": "form"}, keeps_up, thing, None, None)
            self.refused(BadLock, {"part": "form"}, least_period, thing, None)
            self.refused(BadNumber, {"given": thing}, keeps_up, ONE, thing, None)
            self.refused(BadTask, {"part": "coming"}, keeps_up, ONE, 1, thing)
            self.refused(BadTask, {"part": "coming"}, least_period, ONE, thing)
        for thing in (0, -1, BIG + 1):
            self.refused(BadNumber, {"given": thing}, keeps_up, ONE, thing, None)
        for thing in [(-1, 0), (0, BIG + 1), (True, 0), (0,), (0, 0, 0), [0, 0]]:
            self.refused(BadTask, {"part": "coming"}, keeps_up, ONE, BIG, thing)
            self.refused(BadTask, {"part": "coming"}, least_period, ONE, thing)


class WrongArguments(Asking):

    def test_what_is_a_task(self):
        for task in SMALL[::9] + [TASK, ((0, BIG, BIG, 2), "lower", (BIG, BIG), (1, 1)), (GREAT, "upper", (0, BIG), (2, 0))]:
            self.assertIs(need_task(thing=task), task)

    def test_what_is_none(self):
        calls = [need_task, is_done, task_overturned, fewest_hours, least_waits, lambda task: hours_by(task, None),
                 lambda task: waits_by(task, None), lambda task: least_changes(task, None)]
        wrong = [(thing, "form") for thing in OTHERS + [(), TASK[:3], TASK + (0,), list(TASK)]]
        wrong += [((thing, None, None, None), "lock") for thing in OTHERS + [(1, 1, 1), (1, 1, 1, 3), (BIG + 1, 1, 1, 1)]]
        wrong += [((ONE, thing, None, None), "place") for thing in OTHERS + ["low", "Upper", ("upper",)]]
        waits = [(-1, 0), (0, -1), (0, BIG + 1), (BIG + 1, 0), (True, 0), (0, None), (0,), (0, 0, 0), [0, 0]]
        wrong += [((ONE, "upper", thing, None), "waiting") for thing in OTHERS + waits]
        insides_wrong = [(-1, 0), (0, -1), (1, 1), (2, 0), (2, -1), (True, 0), (0, False), (0,), (0, 0, 0), [0, 0]]
        wrong += [((ONE, "lower", (0, 0), thing), "inside") for thing in OTHERS + insides_wrong]
        for call in calls:
            for thing, part in wrong:
                self.refused(BadTask, {"part": part}, call, thing)

    def test_beginnings(self):
        for call in (hours_by, waits_by, least_changes):
            for thing in OTHERS + ["upper", "Own", ("own",)]:
                self.refused(BadTask, {"part": "beginning"}, call, TASK, thing)
            self.refused(BadTask, {"part": "beginning"}, call, (ONE[:3] + (0,), "upper", (1, 0), (0, 0)), "")


if __name__ == "__main__":
    unittest.main()
