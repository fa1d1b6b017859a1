"""IMAGES and ORIGINS of LOTS."""

from lockkeeper.errors import BadNumber
from lockkeeper.kinds import is_within
from lockkeeper.locks import GREATEST, hours_between, turned
from lockkeeper.needpapers import met_at, met_unseen
from lockkeeper.needs import soonest
from lockkeeper.stretches import clipped, joined, need_lot
from lockkeeper.wants import ends_of, need_wants, wants_backwards

PLACES = ("low", "high")
NONE_LEFT = (0, 0, 0, 0)


def knot_at(lock, wants, place, boats):
    """The KNOT at BOTTOM or CREST at which COURSES begin there with so many boats."""
    ends = ends_of(lock, wants)
    level = ends[0] if place == "low" else ends[1]
    return place, boats, wants[1], met_at(ends, level, met_unseen(wants))


def starts_of(lock, wants, lot):
    """A dict of the pairs (PLACE, BOATS) to which the STANDS of a LOT go first, each with the least HOURS."""
    bottom, crest = ends_of(lock, wants)
    starts = {}
    for boats, stretches in enumerate(lot):
        inside = clipped(stretches, bottom, crest)
        if inside:
            # Of all levels the least one is soonest at BOTTOM, the greatest one at CREST.
            starts[("low", boats)] = hours_between(lock, inside[0][0], bottom)
            starts[("high", boats)] = hours_between(lock, inside[-1][1], crest)
    return starts


def all_met(lock, wants, best):
    """A dict of the pairs (PLACE, BOATS) that are come to with all met, with the HOURS of their KNOTS."""
    left = None if wants[1] is None else NONE_LEFT
    told = {}
    for boats in range(lock[3] + 1):
        for place in PLACES:
            knot = (place, boats, left, (1, 1))
            if knot in best:
                told[(place, boats)] = best[knot]
    return told


def straight_ranges(lock, stretches, wants, hours):
    """The ranges to which STRETCHES lead where nothing is wanted that is not so at once."""
    # MARKS that are so at once are those of one level; BOTTOM and CREST tell them as well.
    if wants[0] is not None or wants[1] not in (None, NONE_LEFT):
        return []
    most = hours * lock[1]
    least = hours * lock[2]
    return [(max(0, low - least), min(lock[0], high + most)) for low, high in stretches]


def ranges_from_ends(lock, wants, boats, arrivals, hours):
    """The ranges up from BOTTOM and down from CREST, with all met, to these boats."""
    bottom, crest = ends_of(lock, wants)
    low = arrivals.get(("low", boats), hours + 1)
    high = arrivals.get(("high", boats), hours + 1)
    ranges = []
    if low <= hours:
        ranges.append((bottom, min(crest, bottom + (hours - low) * lock[1])))
    if high <= hours:
        ranges.append((max(bottom, crest - (hours - high) * lock[2]), crest))
    return ranges


def lot_behind(lock, wants, lot, arrivals, hours):
    """The IMAGE of a LOT from which BOTTOM and CREST are come to with all met in these least HOURS."""
    parts = []
    for boats, stretches in enumerate(lot):
        ranges = straight_ranges(lock, stretches, wants, hours)
        parts.append(joined(ranges + ranges_from_ends(lock, wants, boats, arrivals, hours)))
    return tuple(parts)


def image_of(lock, lot, wants, hours):
    """As image, of arguments that are known to be such."""
    starts = starts_of(lock, wants, lot)
    sources = {knot_at(lock, wants, place, boats): starts[(place, boats)] for place, boats in starts}
    # No KNOT here has the PLACE "first", so the first STAND is not asked for.
    best, _ = soonest(lock, None, wants, sources, hours)
    return lot_behind(lock, wants, lot, all_met(lock, wants, best), hours)


def road_of(lock, wants, most):
    """What tells all IMAGES by the WANTS and at most so many HOURS: the ROAD (LOCK, WANTS, CROSSINGS).

    CROSSINGS are, for each pair (PLACE, BOATS), the pairs to which it leads with all met, with the least HOURS.
    """
    crossings = {}
    for boats in range(lock[3] + 1):
        for place in PLACES:
            best, _ = soonest(lock, None, wants, {knot_at(lock, wants, place, boats): 0}, most)
            crossings[(place, boats)] = all_met(lock, wants, best)
    return lock, wants, crossings


def road_turned(road):
    """The ROAD of the COURSES backwards, which tells all ORIGINS."""
    lock, wants, crossings = road
    back = {end: {} for end in crossings}
    for start in crossings:
        for end in crossings[start]:
            # The NEED is the same backwards.
            back[end][start] = crossings[start][end]
    return turned(lock), wants_backwards(lock, wants), back


def arrivals_by(road, lot):
    """A dict of the pairs (PLACE, BOATS) to which a LOT leads with all met, with the least HOURS."""
    lock, wants, crossings = road
    starts = starts_of(lock, wants, lot)
    arrivals = {}
    for start in starts:
        for end in crossings[start]:
            hours = starts[start] + crossings[start][end]
            if end not in arrivals or hours < arrivals[end]:
                arrivals[end] = hours
    return arrivals


def need_hours(lock, lot, wants, hours):
    """Refuses what is none of these arguments."""
    need_lot(lock, lot)
    need_wants(lock, wants)
    if not is_within(hours, 0, GREATEST):
        raise BadNumber(hours)


def image(lock, lot, wants, hours):
    """The IMAGE of the LOT."""
    need_hours(lock, lot, wants, hours)
    return image_of(lock, lot, wants, hours)


def origin(lock, lot, wants, hours):
    """The ORIGIN of the LOT."""
    need_hours(lock, lot, wants, hours)
    return image_of(turned(lock), lot, wants_backwards(lock, wants), hours)
