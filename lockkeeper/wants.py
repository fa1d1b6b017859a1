"""WANTS: which MARKS and what PASSED a COURSE is to have."""

from lockkeeper.errors import BadWants
from lockkeeper.kinds import are_up_to, is_tuple_of
from lockkeeper.locks import is_level, need_lock


def is_marks(lock, thing):
    """Whether any value is a pair of LEVELS as in MARKS."""
    if not is_tuple_of(thing, 2):
        return False
    return is_level(lock, thing[0]) and is_level(lock, thing[1]) and thing[0] <= thing[1]


def is_passed(thing):
    """Whether any value is a quadruple as in PASSED."""
    return are_up_to(thing, (2, 2, 2, 2))


def need_wants(lock, thing):
    """The thing itself, if it is WANTS."""
    need_lock(lock)
    if not is_tuple_of(thing, 2):
        raise BadWants("form")
    marks, passed = thing
    if marks is not None and not is_marks(lock, marks):
        raise BadWants("marks")
    if passed is not None and not is_passed(passed):
        raise BadWants("passed")
    return thing


def passed_backwards(passed):
    """PASSED, or None, with IN and OUT of each gate exchanged."""
    if passed is None:
        return None
    return passed[1], passed[0], passed[3], passed[2]


def passed_overturned(passed):
    """PASSED, or None, with the gates exchanged."""
    if passed is None:
        return None
    return passed[2], passed[3], passed[0], passed[1]


def marks_overturned(lock, marks):
    """MARKS, or None, upside down."""
    if marks is None:
        return None
    return lock[0] - marks[1], lock[0] - marks[0]


def wants_backwards(lock, wants):
    """The WANTS that the COURSES backwards meet exactly if the COURSES meet these."""
    marks, passed = need_wants(lock, wants)
    return marks, passed_backwards(passed)


def wants_overturned(lock, wants):
    """The WANTS that the COURSES upside down meet exactly if the COURSES meet these."""
    marks, passed = need_wants(lock, wants)
    return marks_overturned(lock, marks), passed_overturned(passed)


def is_met(wants, marks, passed):
    """Whether these MARKS and PASSED are the wanted ones, where some are."""
    return wants[0] in (None, marks) and wants[1] in (None, passed)


def ends_of(lock, wants):
    """The pair of BOTTOM and CREST."""
    if wants[0] is None:
        return 0, lock[0]
    return wants[0]
