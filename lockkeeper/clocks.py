"""CLOCKS, RESIDUES and what is HEARD."""

from lockkeeper.errors import BadClock, BadNumber
from lockkeeper.kinds import is_from, is_tuple_of, is_within


def are_strokes(thing):
    """Whether any value is STROKES."""
    if not isinstance(thing, tuple) or not 1 <= len(thing) <= 12:
        return False
    return all([is_within(stroke, 0, 24) for stroke in thing])


def need_clock(thing):
    """The thing itself, if it is a CLOCK."""
    if not is_tuple_of(thing, 3):
        raise BadClock("form")
    strokes, missed, added = thing
    if not are_strokes(strokes):
        raise BadClock("strokes")
    if not is_within(missed, 0, 24):
        raise BadClock("missed")
    if not is_within(added, 0, 24):
        raise BadClock("added")
    return thing


def is_heard(thing):
    """Whether any value is HEARD, or None."""
    return thing is None or is_within(thing, 0, 99)


def is_residue(clock, thing):
    """Whether any value is a RESIDUE of the CLOCK."""
    return is_within(thing, 0, len(clock[0]) - 1)


def is_gap(thing):
    """Whether any value is a GAP, a pair."""
    return is_tuple_of(thing, 2) and is_within(thing[0], 0, 12) and is_within(thing[1], thing[0], 12)


def heard_range(clock, residue):
    """The pair of the least and the greatest HEARD that fits a RESIDUE."""
    strokes, missed, added = clock
    return max(0, strokes[residue] - missed), strokes[residue] + added


def fits(clock, heard, residue):
    """As does_fit, of arguments that are known to be such."""
    if heard is None:
        return True
    least, greatest = heard_range(clock, residue)
    return least <= heard <= greatest


def behind_hours(clock, residue, hours):
    """As residue_behind, of arguments that are known to be such."""
    return (residue + hours) % len(clock[0])


def does_fit(clock, heard, residue):
    """Whether HEARD fits a RESIDUE."""
    need_clock(clock)
    if not is_heard(heard):
        raise BadNumber(heard)
    if not is_residue(clock, residue):
        raise BadNumber(residue)
    return fits(clock, heard, residue)


def residue_behind(clock, residue, hours):
    """The RESIDUE so many hours behind another one."""
    need_clock(clock)
    if not is_residue(clock, residue):
        raise BadNumber(residue)
    if not is_from(hours, 0):
        raise BadNumber(hours)
    return behind_hours(clock, residue, hours)
