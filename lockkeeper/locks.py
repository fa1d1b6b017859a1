"""LOCKS, STANDS and HOURS."""

from lockkeeper.errors import BadHour, BadLock, BadNumber, BadStand
from lockkeeper.kinds import is_from, is_tuple_of, is_within, is_worded

GREATEST = 10 ** 30


def need_lock(thing):
    """The thing itself, if it is a LOCK."""
    if not is_tuple_of(thing, 4):
        raise BadLock("form")
    top, up, down, room = thing
    if not is_within(top, 0, GREATEST):
        raise BadLock("top")
    if not is_within(up, 1, GREATEST):
        raise BadLock("up")
    if not is_within(down, 1, GREATEST):
        raise BadLock("down")
    if not is_within(room, 0, 2):
        raise BadLock("room")
    return thing


def is_level(lock, thing):
    """Whether any value is a LEVEL."""
    return is_within(thing, 0, lock[0])


def is_stand(lock, thing):
    """Whether any value is a STAND."""
    return is_tuple_of(thing, 2) and is_level(lock, thing[0]) and is_within(thing[1], 0, lock[3])


def need_stand(lock, thing):
    """The thing itself, if it is a STAND."""
    need_lock(lock)
    if not is_stand(lock, thing):
        raise BadStand(thing)
    return thing


def can_water_go(lock, level, thing):
    """Whether any value is a LEVEL to which the water goes in one HOUR."""
    return is_level(lock, thing) and level - lock[2] <= thing <= level + lock[1]


def can_boats_go(lock, boats, out, come):
    """Whether so many, any values, can go out of the chamber and then come in."""
    return is_within(out, 0, boats) and is_from(come, 0) and boats - out + come <= lock[3]


def is_gate_hour(lock, stand, thing):
    """Whether any value is an HOUR at a gate, at the STAND."""
    if not is_worded(thing, "upper", 3) and not is_worded(thing, "lower", 3):
        return False
    gate, out, come = thing
    level = lock[0] if gate == "upper" else 0
    return stand[0] == level and can_boats_go(lock, stand[1], out, come)


def is_hour_at(lock, stand, thing):
    """As is_hour, of a LOCK and a STAND that are known to be such."""
    if is_worded(thing, "water", 2):
        return can_water_go(lock, stand[0], thing[1])
    return is_gate_hour(lock, stand, thing)


def is_hour(lock, stand, thing):
    """Whether any value is an HOUR at the STAND."""
    need_stand(lock, stand)
    return is_hour_at(lock, stand, thing)


def stand_behind(stand, hour):
    """The STAND behind what is known to be an HOUR at this one."""
    level, boats = stand
    if hour[0] == "water":
        return hour[1], boats
    return level, boats - hour[1] + hour[2]


def after_hour(lock, stand, hour):
    """The STAND behind an HOUR."""
    if not is_hour(lock, stand, hour):
        raise BadHour(hour)
    return stand_behind(stand, hour)


def turned(lock):
    """The TURNED LOCK."""
    top, up, down, room = need_lock(lock)
    return top, down, up, room


def hours_between(lock, level, far):
    """The STRAIGHT HOURS between what are known to be LEVELS."""
    if far >= level:
        return (far - level + lock[1] - 1) // lock[1]
    return (level - far + lock[2] - 1) // lock[2]


def straight_hours(lock, level, far):
    """The STRAIGHT HOURS from a level to another one."""
    need_lock(lock)
    if not is_level(lock, level):
        raise BadNumber(level)
    if not is_level(lock, far):
        raise BadNumber(far)
    return hours_between(lock, level, far)
