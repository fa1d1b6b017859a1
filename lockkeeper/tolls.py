"""What TOLLS tell of the hours alone, and papers on it."""

from lockkeeper.clocks import behind_hours, heard_range, is_gap, need_clock
from lockkeeper.errors import BadNumber
from lockkeeper.kinds import is_integer
from lockkeeper.stretches import joined
from lockkeeper.tollpapers import (
    fitting, is_no_greater, led_by_call, need_number, need_span, need_tolls, sums_behind, tolls_with)


def lots_ahead(tolls):
    """The list of the RESIDUES that come ahead of each CALL, each an ascending list."""
    clock, calls = tolls
    lots = [fitting(clock, calls[0])]
    for call in calls[1:]:
        led = {behind: True for residue in lots[-1] for behind, _ in led_by_call(clock, call, residue)}
        lots.append(sorted(led))
    return lots


def lots_behind(tolls):
    """The list of the RESIDUES that come behind each CALL, each an ascending list."""
    clock, calls = tolls
    lots = [fitting(clock, calls[-1])]
    for number in range(len(calls) - 1, 0, -1):
        later = lots[-1]
        here = []
        for residue in fitting(clock, calls[number - 1]):
            if any([behind in later for behind, _ in led_by_call(clock, calls[number], residue)]):
                here.append(residue)
        lots.append(here)
    return lots[::-1]


def agree_at_all(tolls):
    """As are_tolls_right, of what is known to be TOLLS."""
    return lots_ahead(tolls)[-1] != []


def are_tolls_right(tolls):
    """Whether some RECKONING agrees."""
    return agree_at_all(need_tolls(tolls))


def first_wrong_call(tolls):
    """The number of the first wrong CALL, or None."""
    lots = lots_ahead(need_tolls(tolls))
    return lots.index([]) if [] in lots else None


def tolls_ahead(tolls, number):
    """The RESIDUES that come ahead of the CALL."""
    need_tolls(tolls)
    return tuple(lots_ahead(tolls)[need_number(tolls, number)])


def tolls_behind(tolls, number):
    """The RESIDUES that come behind the CALL."""
    need_tolls(tolls)
    return tuple(lots_behind(tolls)[need_number(tolls, number)])


def tolls_may(tolls, number):
    """The RESIDUES that are possible at the CALL."""
    later = tolls_behind(tolls, number)
    return tuple(residue for residue in tolls_ahead(tolls, number) if residue in later)


def first_hours(tolls, lots, residue):
    """The first HOURS, as tuples are ordered, by which the CALLS are gone on with from this RESIDUE.

    LOTS are those that come behind each CALL; the first one has the RESIDUE.
    """
    clock, calls = tolls
    chosen = []
    here = residue
    for number in range(1, len(calls)):
        led = led_by_call(clock, calls[number], here)
        here, hours = [pair for pair in led if pair[0] in lots[number]][0]
        chosen.append(hours)
    return tuple(chosen)


def earliest(tolls):
    """As first_reckoning, of what is known to be TOLLS."""
    lots = lots_behind(tolls)
    if not lots[0]:
        return None
    return lots[0][0], first_hours(tolls, lots, lots[0][0])


def first_reckoning(tolls):
    """The first RECKONING that agrees, as tuples are ordered, or None."""
    return earliest(need_tolls(tolls))


def many_reckonings(tolls):
    """How many RECKONINGS agree."""
    clock, calls = need_tolls(tolls)
    counts = {residue: 1 for residue in fitting(clock, calls[0])}
    for call in calls[1:]:
        further = {}
        for residue in counts:
            for behind, _ in led_by_call(clock, call, residue):
                further[behind] = further.get(behind, 0) + counts[residue]
        counts = further
    return sum(counts.values())


def sums_ahead(tolls, first, last):
    """For each CALL a dict of the pairs (RESIDUE, SUM) and, of each, a RECKONING up to there."""
    clock, calls = tolls
    tables = [{(residue, 0): (residue, ()) for residue in fitting(clock, calls[0])}]
    for number in range(1, len(calls)):
        earlier = tables[-1]
        table = {}
        for pair in earlier:
            begun, hours = earlier[pair]
            for behind, many in sums_behind(tolls, first, last, number, pair):
                table.setdefault(behind, (begun, hours + (many,)))
        tables.append(table)
    return tables


def toll_totals(tolls, first, last):
    """The TOTALS of two CALLS."""
    need_tolls(tolls)
    need_span(tolls, first, last)
    return tuple(sorted({total for _, total in sums_ahead(tolls, first, last)[-1]}))


def next_heard(tolls, gap):
    """What may be heard next, by a GAP."""
    clock = need_tolls(tolls)[0]
    if not is_gap(gap):
        raise BadNumber(gap)
    ranges = []
    for residue in lots_ahead(tolls)[-1]:
        for hours in range(gap[0], gap[1] + 1):
            ranges.append(heard_range(clock, behind_hours(clock, residue, hours)))
    return joined(ranges)


def turned_clock(clock, many):
    """The CLOCK turned."""
    strokes, missed, added = need_clock(clock)
    if not is_integer(many):
        raise BadNumber(many)
    at = many % len(strokes)
    return strokes[at:] + strokes[:at], missed, added


def least_round(clock):
    """The LEAST ROUND of the CLOCK."""
    strokes, missed, added = need_clock(clock)
    for many in range(1, len(strokes)):
        # Two rounds strike the same for ever only if the lesser one fits into the other one whole times.
        if len(strokes) % many == 0 and strokes == strokes[:many] * (len(strokes) // many):
            return strokes[:many], missed, added
    return strokes, missed, added


def stairs(tolls):
    """For each MISSED from 0 to 24 the least ADDED with which the TOLLS are right, or 25."""
    steps = []
    added = 25
    for missed in range(25):
        # With more MISSED right stays right, so the least ADDED never grows.
        while added > 0 and agree_at_all(tolls_with(tolls, (missed, added - 1))):
            added -= 1
        steps.append(added)
    return steps


def keens_by(steps):
    """The list of the KEENS, by what stairs tells."""
    befores = [25] + steps[:-1]
    return [(missed, steps[missed]) for missed in range(25) if steps[missed] < befores[missed]]


def keens(tolls):
    """The ascending tuple of all KEENS."""
    return tuple(keens_by(stairs(need_tolls(tolls))))


def least_toll_missed(tolls):
    """The least MISSED with which, ADDED being the CLOCK's, the TOLLS are right, or None."""
    clock = need_tolls(tolls)[0]
    for missed in range(25):
        if agree_at_all(tolls_with(tolls, (missed, clock[2]))):
            return missed
    return None


def least_toll_added(tolls):
    """The least ADDED with which, MISSED being the CLOCK's, the TOLLS are right, or None."""
    clock = need_tolls(tolls)[0]
    for added in range(25):
        if agree_at_all(tolls_with(tolls, (clock[1], added))):
            return added
    return None


def out_lots(tolls):
    """LOTS by which TOLLS that are not right are out."""
    lots = lots_ahead(tolls)
    return tuple(tuple(lot) for lot in lots[:lots.index([]) + 1])


def tolls_paper(tolls):
    """A paper on whether the TOLLS are right."""
    reckoning = first_reckoning(tolls)
    if reckoning is None:
        return "out", out_lots(tolls)
    return "agrees", reckoning[0], reckoning[1]


def toll_totals_paper(tolls, first, last):
    """A paper on the TOTALS of two CALLS."""
    need_tolls(tolls)
    need_span(tolls, first, last)
    tables = sums_ahead(tolls, first, last)
    rows = {}
    for residue, total in sorted(tables[-1]):
        rows.setdefault(total, (total,) + tables[-1][(residue, total)])
    return "totals", tuple(rows[total] for total in sorted(rows)), tuple(tuple(sorted(table)) for table in tables)


def is_corner(pairs, pair):
    """Whether a pair is not no greater in both than another one of the pairs."""
    return not any([is_no_greater(pair, other) for other in pairs if other != pair])


def wrong_corners(steps):
    """The list of the greatest pairs with which TOLLS are not right, by what stairs tells."""
    pairs = [(missed, steps[missed] - 1) for missed in range(25) if steps[missed] > 0]
    return [pair for pair in pairs if is_corner(pairs, pair)]


def keens_paper(tolls):
    """A paper on the KEENS."""
    steps = stairs(need_tolls(tolls))
    rows = [(keen,) + earliest(tolls_with(tolls, keen)) for keen in keens_by(steps)]
    outs = [(pair, out_lots(tolls_with(tolls, pair))) for pair in wrong_corners(steps)]
    return "keens", tuple(rows), tuple(outs)
