"""TASKS: the fewest HOURS, the least WAITS, the FRONT, and whether a LOCK keeps up with a STREAM."""

from lockkeeper.errors import BadLock, BadNumber, BadTask
from lockkeeper.kinds import is_from, is_tuple_of, is_within
from lockkeeper.locks import GREATEST, hours_between, need_lock, turned

PLACES = ("upper", "lower")
BEGINNINGS = ("own", "other")


def is_lock(thing):
    """Whether any value is a LOCK."""
    try:
        need_lock(thing)
    except BadLock:
        return False
    return True


def is_one_of(thing, words):
    """Whether any value is one of the words."""
    return isinstance(thing, str) and thing in words


def are_boats(thing):
    """Whether any value is a pair of numbers of boats that wait, or that come."""
    return is_tuple_of(thing, 2) and is_within(thing[0], 0, GREATEST) and is_within(thing[1], 0, GREATEST)


def are_inside(lock, thing):
    """Whether any value is INSIDE of a LOCK."""
    return is_tuple_of(thing, 2) and is_from(thing[0], 0) and is_from(thing[1], 0) and thing[0] + thing[1] <= lock[3]


def need_task(thing):
    """The thing itself, if it is a TASK."""
    if not is_tuple_of(thing, 4):
        raise BadTask("form")
    lock, place, waiting, inside = thing
    if not is_lock(lock):
        raise BadTask("lock")
    if not is_one_of(place, PLACES):
        raise BadTask("place")
    if not are_boats(waiting):
        raise BadTask("waiting")
    if not are_inside(lock, inside):
        raise BadTask("inside")
    return thing


def need_beginning(thing):
    """Refuses what is no BEGINNING."""
    if not is_one_of(thing, BEGINNINGS):
        raise BadTask("beginning")


def is_all_done(task):
    """Whether what is known to be a TASK is done."""
    return task[2] == (0, 0) and task[3] == (0, 0)


def is_done(task):
    """Whether the TASK is done."""
    return is_all_done(need_task(task))


def overturned_task(task):
    """As task_overturned, of what is known to be a TASK."""
    lock, place, waiting, inside = task
    return turned(lock), "lower" if place == "upper" else "upper", waiting[::-1], inside[::-1]


def task_overturned(task):
    """The TASK upside down."""
    return overturned_task(need_task(task))


def upright(task):
    """The TASK, or the TASK upside down: the one with the PLACE "upper"."""
    return task if task[1] == "upper" else overturned_task(task)


def can_be_done(task):
    """Whether some COURSE does what is known to be a TASK."""
    return task[0][3] > 0 or is_all_done(task)


def loads_of(lock, many):
    """How many times the chamber must be filled for so many boats."""
    room = max(1, lock[3])
    return (many + room - 1) // room


def changes_by(task, beginning):
    """As least_changes, of a TASK that can be done, with the PLACE "upper"."""
    lock, _, (above, below), (downward, upward) = task
    if beginning == "own":
        down = loads_of(lock, downward + above)
        up = loads_of(lock, below)
    else:
        down = loads_of(lock, above) + 1
        up = loads_of(lock, upward + below)
    return max(down, up), max(up, down - 1, 0)


def least_changes(task, beginning):
    """The least CHANGES of COURSES that do the TASK with this BEGINNING, None if there is none."""
    need_task(task)
    need_beginning(beginning)
    if not can_be_done(task):
        return None
    changes = changes_by(upright(task), beginning)
    return changes if task[1] == "upper" else changes[::-1]


def lift_hours(lock):
    """The pair of F and R, each and the HOUR at the gate behind it."""
    return hours_between(lock, lock[0], 0) + 1, hours_between(lock, 0, lock[0]) + 1


def round_hours(lock):
    """F + R + 2: the HOURS from a gate to the other one and back, both gates opened."""
    return sum(lift_hours(lock))


def least_hours_by(task, beginning):
    """As hours_by, of a TASK that can be done."""
    task = upright(task)
    fall, rise = lift_hours(task[0])
    down, up = changes_by(task, beginning)
    return down * fall + up * rise + (1 if beginning == "own" else 0)


def hours_by(task, beginning):
    """The least HOURS of COURSES that do the TASK with this BEGINNING, None if there is none."""
    need_task(task)
    need_beginning(beginning)
    return least_hours_by(task, beginning) if can_be_done(task) else None


def sum_of_waits(lock, many, first):
    """The WAITS of so many boats that go out by the one gate as many as there is room for at once, from an hour on."""
    period = round_hours(lock)
    loads = many // lock[3]
    rest = many - loads * lock[3]
    full = lock[3] * (loads * first + period * (loads * (loads - 1) // 2))
    return full + rest * (first + loads * period)


def least_waits_by(task, beginning):
    """As waits_by, of a TASK that can be done."""
    if is_all_done(task):
        return 0
    lock, _, (above, below), (downward, upward) = upright(task)
    fall, _ = lift_hours(lock)
    period = round_hours(lock)
    if beginning == "own":
        down = sum_of_waits(lock, downward + above, 1 + fall)
        return upward + down + sum_of_waits(lock, below, 1 + period)
    up = sum_of_waits(lock, upward + below, period)
    return downward * fall + sum_of_waits(lock, above, period + fall) + up


def waits_by(task, beginning):
    """The least WAITS of COURSES that do the TASK with this BEGINNING, None if there is none."""
    need_task(task)
    need_beginning(beginning)
    return least_waits_by(task, beginning) if can_be_done(task) else None


def fewest_hours(task):
    """The FEWEST HOURS, None if the TASK cannot be done."""
    need_task(task)
    if not can_be_done(task):
        return None
    if is_all_done(task):
        return 0
    return min([least_hours_by(task, beginning) for beginning in BEGINNINGS])


def least_waits(task):
    """The LEAST WAITS, None if the TASK cannot be done."""
    need_task(task)
    if not can_be_done(task):
        return None
    return min([least_waits_by(task, beginning) for beginning in BEGINNINGS])


def most_loads(lock, hours):
    """The pair of how many loads, at most, can go down and go up in so many HOURS, from the upper gate on."""
    fall, _ = lift_hours(lock)
    rounds = hours // round_hours(lock)
    is_further = hours - rounds * round_hours(lock) >= fall
    return rounds + (1 if is_further else 0), rounds


def front_by(lock, inside, hours, beginning):
    """The list of the one greatest pair (ABOVE, BELOW), from the PLACE "upper", by a BEGINNING; or of none."""
    downward, upward = inside
    room = lock[3]
    down, up = most_loads(lock, hours - 1 if beginning == "own" else hours)
    if beginning == "own":
        pair = (down * room - downward, up * room)
    else:
        pair = ((down - 1) * room, up * room - upward)
    return [pair] if min(pair) >= 0 else []


def upright_front(lock, inside, hours):
    """The list of all pairs of the FRONT, from the PLACE "upper", perhaps with some that are no greater than others."""
    pairs = [(0, 0)] if inside == (0, 0) else []
    if lock[3] == 0:
        return pairs
    if hours > 0:
        pairs.extend(front_by(lock, inside, hours, "own"))
    pairs.extend(front_by(lock, inside, hours, "other"))
    return pairs


def is_beyond(pair, other):
    """Whether a pair is no less in both than another one, and not the same."""
    return pair != other and pair[0] >= other[0] and pair[1] >= other[1]


def front(lock, place, inside, hours):
    """The FRONT."""
    need_lock(lock)
    if not is_one_of(place, PLACES):
        raise BadTask("place")
    if not are_inside(lock, inside):
        raise BadTask("inside")
    if not is_within(hours, 0, GREATEST):
        raise BadNumber(hours)
    if place == "upper":
        pairs = upright_front(lock, inside, hours)
    else:
        pairs = [pair[::-1] for pair in upright_front(turned(lock), inside[::-1], hours)]
    return tuple(sorted({pair for pair in pairs if not any([is_beyond(other, pair) for other in pairs])}))


def need_coming(thing):
    """Refuses what is no COMING."""
    if not are_boats(thing):
        raise BadTask("coming")


def keeps_up(lock, period, coming):
    """Whether the LOCK keeps up with the STREAM."""
    need_lock(lock)
    if not is_within(period, 1, GREATEST):
        raise BadNumber(period)
    need_coming(coming)
    return max(coming) * round_hours(lock) <= lock[3] * period


def least_period(lock, coming):
    """The least PERIOD with which the LOCK keeps up, None if there is none."""
    need_lock(lock)
    need_coming(coming)
    if coming == (0, 0):
        return 1
    if lock[3] == 0:
        return None
    return (max(coming) * round_hours(lock) + lock[3] - 1) // lock[3]
