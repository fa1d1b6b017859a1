"""KNOTS, WAYS, and the check of the PAPERS on a NEED."""

from lockkeeper.courses import passed_by
from lockkeeper.errors import BadKnot, BadPaper, BadWay
from lockkeeper.kinds import are_up_to, is_ascending, is_from, is_tuple_of, is_within, is_worded
from lockkeeper.locks import hours_between, is_gate_hour, is_level, need_stand, stand_behind
from lockkeeper.wants import ends_of, is_met, need_wants

LONGEST = 10 ** 40


def met_at(ends, level, met):
    """MET with 1 for each of BOTTOM and CREST that is this level."""
    return (1 if level == ends[0] else met[0], 1 if level == ends[1] else met[1])


def met_unseen(wants):
    """MET as it is wherever neither BOTTOM nor CREST was come to."""
    return (1, 1) if wants[0] is None else (0, 0)


def first_of(lock, stand, wants):
    """As first_knot, of arguments that are known to be such."""
    ends = ends_of(lock, wants)
    if not ends[0] <= stand[0] <= ends[1]:
        return None
    return "first", stand[1], wants[1], met_at(ends, stand[0], met_unseen(wants))


def first_knot(lock, stand, wants):
    """The first KNOT, or None."""
    need_stand(lock, stand)
    return first_of(lock, stand, need_wants(lock, wants))


def is_left(wants, thing):
    """Whether any value is a LEFT of these WANTS."""
    if wants[1] is None:
        return thing is None
    return are_up_to(thing, wants[1])


def is_place(lock, stand, wants, thing):
    """Whether any value is a PLACE of these WANTS."""
    if not isinstance(thing, str):
        return False
    return thing in ("low", "high") or (thing == "first" and first_of(lock, stand, wants) is not None)


def is_knot(lock, stand, wants, thing):
    """Whether any value has the form of a KNOT of these WANTS."""
    if not is_tuple_of(thing, 4) or not is_place(lock, stand, wants, thing[0]):
        return False
    if not is_within(thing[1], 0, lock[3]) or not is_left(wants, thing[2]):
        return False
    return are_up_to(thing[3], (1, 1)) and (wants[0] is not None or thing[3] == (1, 1))


def need_knot(lock, stand, wants, knot):
    """The KNOT itself, if it has the form of one."""
    if not is_knot(lock, stand, wants, knot):
        raise BadKnot(knot)
    return knot


def level_of(lock, stand, wants, knot):
    """The level of a KNOT."""
    if knot[0] == "first":
        return stand[0]
    return ends_of(lock, wants)[0 if knot[0] == "low" else 1]


def left_behind(left, upper, out, come):
    """LEFT with what has passed a gate taken from it, or None if a number would be below 0."""
    at = 0 if upper else 2
    behind = list(left)
    behind[at] -= come
    behind[at + 1] -= out
    return None if min(behind) < 0 else tuple(behind)


def knots_by_gate(lock, knot):
    """All KNOTS to which an HOUR at the gate of the KNOT's PLACE leads."""
    place, boats, left, met = knot
    knots = []
    for out in range(boats + 1):
        for come in range(lock[3] - boats + out + 1):
            behind = None if left is None else left_behind(left, place == "high", out, come)
            if out + come > 0 and (left is None or behind is not None):
                knots.append((place, boats - out + come, behind, met))
    return knots


def is_at_gate(lock, wants, place):
    """Whether a gate can be opened at this PLACE."""
    bottom, crest = ends_of(lock, wants)
    return (place == "low" and bottom == 0) or (place == "high" and crest == lock[0])


def steps_of(lock, stand, wants, knot):
    """A dict of all KNOTS to which a step leads, each with the fewest HOURS of one."""
    place, boats, left, met = knot
    ends = ends_of(lock, wants)
    here = level_of(lock, stand, wants, knot)
    steps = {}
    for goal, far in (("low", ends[0]), ("high", ends[1])):
        if goal != place:
            steps[(goal, boats, left, met_at(ends, far, met))] = hours_between(lock, here, far)
    if is_at_gate(lock, wants, place):
        for further in knots_by_gate(lock, knot):
            steps[further] = 1
    return steps


def steps_from(lock, stand, wants, knot):
    """The ascending tuple of the pairs (KNOT, HOURS) of all steps from the KNOT."""
    need_stand(lock, stand)
    need_wants(lock, wants)
    need_knot(lock, stand, wants, knot)
    steps = steps_of(lock, stand, wants, knot)
    return tuple(sorted(steps.items()))


def is_all_met(knot):
    """Whether nothing is to pass, and no mark to be come to, behind the KNOT."""
    return knot[2] in (None, (0, 0, 0, 0)) and knot[3] == (1, 1)


def end_of(lock, stand, other, wants, knot):
    """As end_from, of arguments that are known to be such."""
    bottom, crest = ends_of(lock, wants)
    if knot[1] != other[1] or not is_all_met(knot) or not bottom <= other[0] <= crest:
        return None
    return hours_between(lock, level_of(lock, stand, wants, knot), other[0])


def end_from(lock, stand, other, wants, knot):
    """The HOURS in which the KNOT ends, None if it does not."""
    need_stand(lock, stand)
    need_stand(lock, other)
    need_wants(lock, wants)
    return end_of(lock, stand, other, wants, need_knot(lock, stand, wants, knot))


def is_leg(lock, stand, thing):
    """Whether any value is a LEG at the STAND."""
    if not is_worded(thing, "to", 3):
        return is_gate_hour(lock, stand, thing)
    if not is_level(lock, thing[1]) or not is_within(thing[2], 1, LONGEST):
        return False
    return thing[2] >= hours_between(lock, stand[0], thing[1])


def behind_leg(stand, leg):
    """The STAND behind what is known to be a LEG at this one."""
    if leg[0] == "to":
        return leg[1], stand[1]
    return stand_behind(stand, leg)


def wrong_leg(lock, stand, legs):
    """The number of the first thing of a tuple that is no LEG there, or None."""
    here = stand
    for number, leg in enumerate(legs):
        if not is_leg(lock, here, leg):
            return number
        here = behind_leg(here, leg)
    return None


def is_way_from(lock, stand, value):
    """As is_way, of a LOCK and a STAND that are known to be such."""
    return isinstance(value, tuple) and wrong_leg(lock, stand, value) is None


def is_way(lock, stand, value):
    """Whether any value is a WAY from the STAND."""
    need_stand(lock, stand)
    return is_way_from(lock, stand, value)


def told_of(stand, way):
    """As way_told, of what is known to be a WAY from the STAND."""
    here = stand
    levels = [stand[0]]
    for leg in way:
        here = behind_leg(here, leg)
        levels.append(here[0])
    hours = sum([leg[2] if leg[0] == "to" else 1 for leg in way])
    return here, hours, (min(levels), max(levels)), passed_by(way)


def way_told(lock, stand, way):
    """The quadruple of the last STAND of a WAY, its HOURS, its MARKS, its PASSED."""
    need_stand(lock, stand)
    if not isinstance(way, tuple) or len(way) > 400:
        raise BadWay(None)
    number = wrong_leg(lock, stand, way)
    if number is not None:
        raise BadWay(number)
    return told_of(stand, way)


def are_knots(lock, stand, wants, things):
    """Whether it is a list or a tuple of KNOTS that ascend."""
    return all([is_knot(lock, stand, wants, thing) for thing in things]) and is_ascending(things)


def are_lows(lock, stand, wants, things):
    """Whether any value has the form of LOWS."""
    if not isinstance(things, tuple):
        return False
    if not all([is_tuple_of(thing, 2) and is_from(thing[1], 1) for thing in things]):
        return False
    # That the KNOTS ascend is that the pairs do, and that no KNOT stands twice.
    return are_knots(lock, stand, wants, [thing[0] for thing in things])


def is_low(lock, stand, other, wants, lows, knot):
    """Whether the number of a KNOT of LOWS is no more than the steps and the end allow."""
    end = end_of(lock, stand, other, wants, knot)
    if end is not None and lows[knot] > end:
        return False
    steps = steps_of(lock, stand, wants, knot)
    return all([lows[knot] <= lows.get(further, 0) + steps[further] for further in steps])


def holds_need(lock, stand, other, wants, paper):
    """Whether a paper ("need", WAY, LOWS) holds."""
    if not is_way_from(lock, stand, paper[1]) or not are_lows(lock, stand, wants, paper[2]):
        return False
    last, hours, marks, passed = told_of(stand, paper[1])
    if last != other or not is_met(wants, marks, passed):
        return False
    lows = {knot: number for knot, number in paper[2]}
    if lows.get(first_of(lock, stand, wants), 0) != hours:
        return False
    return all([is_low(lock, stand, other, wants, lows, knot) for knot in lows])


def holds_never(lock, stand, other, wants, paper):
    """Whether a paper ("never", KNOTS) holds."""
    if not isinstance(paper[1], tuple) or not are_knots(lock, stand, wants, paper[1]):
        return False
    knots = {knot: True for knot in paper[1]}
    first = first_of(lock, stand, wants)
    if first is not None and first not in knots:
        return False
    for knot in paper[1]:
        if end_of(lock, stand, other, wants, knot) is not None:
            return False
        if any([further not in knots for further in steps_of(lock, stand, wants, knot)]):
            return False
    return True


def check_hours(lock, stand, other, wants, paper):
    """The first word of a PAPER on the NEED that holds."""
    need_stand(lock, stand)
    need_stand(lock, other)
    need_wants(lock, wants)
    if is_worded(paper, "need", 3):
        if not holds_need(lock, stand, other, wants, paper):
            raise BadPaper("need")
        return "need"
    if is_worded(paper, "never", 2):
        if not holds_never(lock, stand, other, wants, paper):
            raise BadPaper("never")
        return "never"
    raise BadPaper("form")
