"""The NEED, COURSES that meet WANTS, and PAPERS on the NEED."""

from heapq import heapify, heappop, heappush

from lockkeeper.errors import BadNumber, Nothing
from lockkeeper.kinds import is_within
from lockkeeper.locks import GREATEST, hours_between, need_stand
from lockkeeper.needpapers import end_of, first_of, level_of, steps_of
from lockkeeper.wants import need_wants


def soonest(lock, stand, wants, sources, most):
    """Of all KNOTS that come of the sources the least HOURS, and the KNOT ahead.

    Sources are a dict of KNOTS and their HOURS. Unless most is None, KNOTS with more HOURS are left out.
    """
    best = {knot: sources[knot] for knot in sources}
    ahead = {knot: None for knot in sources}
    queue = [(sources[knot], knot) for knot in sources]
    heapify(queue)
    while queue:
        hours, knot = heappop(queue)
        if hours > best[knot]:
            continue
        steps = steps_of(lock, stand, wants, knot)
        for further in steps:
            total = hours + steps[further]
            is_less = further not in best or total < best[further]
            if is_less and (most is None or total <= most):
                best[further] = total
                ahead[further] = knot
                heappush(queue, (total, further))
    return best, ahead


def knots_from(lock, stand, wants, most):
    """What soonest tells of the first KNOT; two empty dicts if there is none."""
    first = first_of(lock, stand, wants)
    if first is None:
        return {}, {}
    return soonest(lock, stand, wants, {first: 0}, most)


def best_end(lock, stand, other, wants, best):
    """The pair of the NEED and the KNOT behind which it ends; two None if there is none."""
    need = None
    last = None
    for knot in best:
        end = end_of(lock, stand, other, wants, knot)
        if end is not None and (need is None or best[knot] + end < need):
            need = best[knot] + end
            last = knot
    return need, last


def need_ends(lock, stand, other, wants):
    """Refuses what is none of these arguments."""
    need_stand(lock, stand)
    need_stand(lock, other)
    need_wants(lock, wants)


def least_hours(lock, stand, other, wants):
    """The NEED, or None."""
    need_ends(lock, stand, other, wants)
    best, _ = knots_from(lock, stand, wants, None)
    return best_end(lock, stand, other, wants, best)[0]


def can_be(lock, stand, other, wants, hours):
    """Whether a COURSE with so many HOURS leads there and meets the WANTS."""
    need = least_hours(lock, stand, other, wants)
    if not is_within(hours, 0, GREATEST):
        raise BadNumber(hours)
    return need is not None and need <= hours


def path_to(ahead, knot):
    """The list of KNOTS up to this one, the first one ahead."""
    path = [knot]
    while ahead[path[-1]] is not None:
        path.append(ahead[path[-1]])
    return path[::-1]


def water_legs(lock, level, far):
    """The list of the LEG from a level straight to another one; none if it is the same."""
    hours = hours_between(lock, level, far)
    return [("to", far, hours)] if hours > 0 else []


def gate_leg(knot, further):
    """The LEG at the gate by which a step leads from a KNOT to another one."""
    place, boats, left, _ = knot
    if left is None:
        # Any numbers with this difference would do; these are the least ones.
        come = max(0, further[1] - boats)
    else:
        at = 0 if place == "high" else 2
        come = left[at] - further[2][at]
    return ("upper" if place == "high" else "lower", boats + come - further[1], come)


def way_to(lock, stand, other, wants, path):
    """The WAY by the steps of a path of KNOTS, and by the end behind them."""
    legs = []
    for knot, further in zip(path, path[1:]):
        if knot[0] == further[0]:
            legs.append(gate_leg(knot, further))
        else:
            level = level_of(lock, stand, wants, knot)
            legs.extend(water_legs(lock, level, level_of(lock, stand, wants, further)))
    legs.extend(water_legs(lock, level_of(lock, stand, wants, path[-1]), other[0]))
    return tuple(legs)


def water_hours(lock, level, leg):
    """The list of HOURS by which the water goes straight, each as far as it can."""
    hours = []
    here = level
    for _ in range(leg[2]):
        here = min(here + lock[1], leg[1]) if here < leg[1] else max(here - lock[2], leg[1])
        hours.append(("water", here))
    return hours


def course_by(lock, stand, way):
    """The list of the HOURS of a WAY."""
    course = []
    level = stand[0]
    for leg in way:
        if leg[0] == "to":
            course.extend(water_hours(lock, level, leg))
            level = leg[1]
        else:
            course.append(leg)
    return course


def course_between(lock, stand, other, wants, hours):
    """As course_in, of arguments that are known to be such; None if there is no such COURSE."""
    best, ahead = knots_from(lock, stand, wants, hours)
    need, last = best_end(lock, stand, other, wants, best)
    if need is None or need > hours:
        return None
    way = way_to(lock, stand, other, wants, path_to(ahead, last))
    held = [("water", stand[0])] * (hours - need)
    return tuple(held + course_by(lock, stand, way))


def course_in(lock, stand, other, wants, hours):
    """A COURSE with so many HOURS that leads there and meets the WANTS."""
    need_ends(lock, stand, other, wants)
    if not is_within(hours, 0, 400):
        raise BadNumber(hours)
    course = course_between(lock, stand, other, wants, hours)
    if course is None:
        raise Nothing(hours)
    return course


def hours_paper(lock, stand, other, wants):
    """A PAPER on the NEED that holds."""
    need_ends(lock, stand, other, wants)
    best, ahead = knots_from(lock, stand, wants, None)
    need, last = best_end(lock, stand, other, wants, best)
    if need is None:
        return "never", tuple(sorted(best))
    way = way_to(lock, stand, other, wants, path_to(ahead, last))
    # From a KNOT that is come to in so many HOURS at least, the rest of the NEED is still wanted.
    lows = [(knot, need - best[knot]) for knot in best if best[knot] < need]
    return "need", way, tuple(sorted(lows))
