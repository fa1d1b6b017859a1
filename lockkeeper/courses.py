"""COURSES: what they lead to, and how they look backwards and upside down."""

from lockkeeper.errors import BadCourse
from lockkeeper.locks import is_hour_at, need_stand, stand_behind
from lockkeeper.wants import is_met, need_wants

OTHER_GATE = {"upper": "lower", "lower": "upper"}


def need_course(lock, stand, thing):
    """The thing itself, if it is a COURSE from the STAND."""
    need_stand(lock, stand)
    if not isinstance(thing, tuple) or len(thing) > 400:
        raise BadCourse(None)
    here = stand
    for number, hour in enumerate(thing):
        if not is_hour_at(lock, here, hour):
            raise BadCourse(number)
        here = stand_behind(here, hour)
    return thing


def stands_of(lock, stand, course):
    """The tuple of all STANDS, the first one ahead."""
    need_course(lock, stand, course)
    stands = [stand]
    for hour in course:
        stands.append(stand_behind(stands[-1], hour))
    return tuple(stands)


def last_stand(lock, stand, course):
    """The STAND behind the COURSE."""
    return stands_of(lock, stand, course)[-1]


def marks_of(lock, stand, course):
    """The MARKS."""
    levels = [here[0] for here in stands_of(lock, stand, course)]
    return min(levels), max(levels)


def passed_by(hours):
    """What passed in HOURS, or in LEGS, by the gates."""
    totals = {"upper": [0, 0], "lower": [0, 0]}
    for hour in hours:
        if hour[0] in totals:
            totals[hour[0]][0] += hour[2]
            totals[hour[0]][1] += hour[1]
    return (*totals["upper"], *totals["lower"])


def passed_of(lock, stand, course):
    """The PASSED."""
    return passed_by(need_course(lock, stand, course))


def hour_backwards(stand, hour):
    """The HOUR that leads back to the STAND from the one behind it."""
    if hour[0] == "water":
        return "water", stand[0]
    return hour[0], hour[2], hour[1]


def hour_overturned(lock, hour):
    """The HOUR upside down."""
    if hour[0] == "water":
        return "water", lock[0] - hour[1]
    return OTHER_GATE[hour[0]], hour[1], hour[2]


def backwards(lock, stand, course):
    """The pair of the STAND and the COURSE backwards."""
    stands = stands_of(lock, stand, course)
    hours = [hour_backwards(here, hour) for here, hour in zip(stands, course)]
    return stands[-1], tuple(hours[::-1])


def overturned(lock, stand, course):
    """The pair of the STAND and the COURSE upside down."""
    need_course(lock, stand, course)
    return (lock[0] - stand[0], stand[1]), tuple(hour_overturned(lock, hour) for hour in course)


def does_meet(lock, stand, course, wants):
    """Whether the COURSE meets the WANTS."""
    marks = marks_of(lock, stand, course)
    passed = passed_of(lock, stand, course)
    return is_met(need_wants(lock, wants), marks, passed)
