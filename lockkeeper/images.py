"""IMAGES and ORIGINS of LOTS."""

from lockkeeper.errors import BadNumber
from lockkeeper.kinds import is_within
from lockkeeper.locks import GREATEST, hours_between, turned
from lockkeeper.needpapers import met_at, met_unseen
from lockkeeper.needs import soonest
from lockkeeper.stretches import clipped, joined, need_lot
from lockkeeper.wants import ends_of, need_wants, wants_backwards

NONE_LEFT = (0, 0, 0, 0)


def sources_of(lock, lot, wants):
    """The KNOTS at BOTTOM and at CREST to which the STANDS of a LOT go first, with the least HOURS."""
    ends = ends_of(lock, wants)
    unseen = met_unseen(wants)
    sources = {}
    for boats, stretches in enumerate(lot):
        inside = clipped(stretches, ends[0], ends[1])
        if inside:
            low = ("low", boats, wants[1], met_at(ends, ends[0], unseen))
            high = ("high", boats, wants[1], met_at(ends, ends[1], unseen))
            # Of all levels the least one is soonest at BOTTOM, the greatest one at CREST.
            sources[low] = hours_between(lock, inside[0][0], ends[0])
            sources[high] = hours_between(lock, inside[-1][1], ends[1])
    return sources


def straight_ranges(lock, stretches, wants, hours):
    """The ranges to which STRETCHES lead where nothing is wanted that is not so at once."""
    # MARKS that are so at once are those of one level; BOTTOM and CREST tell them as well.
    if wants[0] is not None or wants[1] not in (None, NONE_LEFT):
        return []
    most = hours * lock[1]
    least = hours * lock[2]
    return [(max(0, low - least), min(lock[0], high + most)) for low, high in stretches]


def ranges_from_ends(lock, wants, boats, best, hours):
    """The ranges up from BOTTOM and down from CREST, with all met, to these boats."""
    bottom, crest = ends_of(lock, wants)
    left = None if wants[1] is None else NONE_LEFT
    low = best.get(("low", boats, left, (1, 1)), hours + 1)
    high = best.get(("high", boats, left, (1, 1)), hours + 1)
    ranges = []
    if low <= hours:
        ranges.append((bottom, min(crest, bottom + (hours - low) * lock[1])))
    if high <= hours:
        ranges.append((max(bottom, crest - (hours - high) * lock[2]), crest))
    return ranges


def image_of(lock, lot, wants, hours):
    """As image, of arguments that are known to be such."""
    # No KNOT here has the PLACE "first", so the first STAND is not asked for.
    best, _ = soonest(lock, None, wants, sources_of(lock, lot, wants), hours)
    parts = []
    for boats, stretches in enumerate(lot):
        ranges = straight_ranges(lock, stretches, wants, hours)
        parts.append(joined(ranges + ranges_from_ends(lock, wants, boats, best, hours)))
    return tuple(parts)


def need_hours(lock, lot, wants, hours):
    """Refuses what is none of these arguments."""
    need_lot(lock, lot)
    need_wants(lock, wants)
    if not is_within(hours, 0, GREATEST):
        raise BadNumber(hours)


def image(lock, lot, wants, hours):
    """The IMAGE of the LOT."""
    need_hours(lock, lot, wants, hours)
    return image_of(lock, lot, wants, hours)


def origin(lock, lot, wants, hours):
    """The ORIGIN of the LOT."""
    need_hours(lock, lot, wants, hours)
    return image_of(turned(lock), lot, wants_backwards(lock, wants), hours)
