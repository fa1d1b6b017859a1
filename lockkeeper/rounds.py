"""What comes of ROUNDS that are gone again and again: REST, TURN, SPAN, PACES, and PAPERS on them."""

from math import gcd

from lockkeeper.bookpapers import roads_of
from lockkeeper.books import first_beyond, need_book
from lockkeeper.errors import BadNumber, Nothing, TooMany
from lockkeeper.histories import history_by, history_in, history_within, need_right, tables_with
from lockkeeper.kinds import is_within
from lockkeeper.locks import GREATEST
from lockkeeper.roundpapers import (
    adding, first_hours, is_pair, lap_book, lap_layers, lasting, leads_of, need_given_rounds, others_by, pairs_in,
    reached, ring_in, sets_at, steps_by, way_to, written_on)
from lockkeeper.tables import tables_ahead


def need_asked(book, again):
    """Refuses what are no BOOK and no ROUNDS."""
    need_book(book)
    need_given_rounds(book, again)


def need_times(many, greatest):
    """Refuses what is no number of times."""
    if not is_within(many, 0, greatest):
        raise BadNumber(many)


def written(book, again, many):
    """The BOOK with so many times the ROUNDS."""
    need_asked(book, again)
    need_times(many, GREATEST)
    # The number of times may be too great for a tuple.
    if len(book[2]) + many * len(again) > 6:
        raise TooMany(6)
    wide = written_on(book, again * many)
    if first_beyond(wide[2]) is not None:
        raise TooMany(24)
    return wide


def steps(book, again):
    """The ascending tuple of all triples (PAIR, OTHER, HOURS)."""
    need_asked(book, again)
    leads = leads_of(book, again)
    return tuple(sorted([(pair, other, tuple(leads[(pair, other)])) for pair, other in leads]))


def first_rest(book):
    """REST of no times."""
    sets = tables_ahead(book, roads_of(book))[-1]
    return tuple(pairs_in(sets))


def rest_behind(others, pairs):
    """The REST behind one more time."""
    return tuple(sorted({other for pair in pairs for other in others[pair]}))


def rests_of(book, again):
    """The list of the RESTS from one time on, up to the first one that came ahead, which is the last one here."""
    others = others_by(book, leads_of(book, again))
    rests = [tuple(sorted(first_hours(book, again)))]
    seen = set()
    while rests[-1] not in seen:
        seen.add(rests[-1])
        rests.append(rest_behind(others, rests[-1]))
    return rests


def turn_of(rests):
    """The TURN, by these RESTS."""
    first = rests.index(rests[-1])
    return first + 1, len(rests) - 1 - first


def rest(book, again, many):
    """REST of so many times."""
    need_asked(book, again)
    need_times(many, GREATEST)
    if many == 0:
        return first_rest(book)
    rests = rests_of(book, again)
    first, period = turn_of(rests)
    return rests[many - 1] if many < first else rests[first - 1 + (many - first) % period]


def is_right_with(book, again, many):
    """Whether the BOOK is right with so many times the ROUNDS."""
    return rest(book, again, many) != ()


def turn(book, again):
    """The TURN."""
    need_asked(book, again)
    return turn_of(rests_of(book, again))


def times_of(book, again, pair):
    """The pair of the ascending tuples EARLY and LATER of a PAIR."""
    need_asked(book, again)
    if not is_pair(book, pair):
        raise BadNumber(pair)
    rests = rests_of(book, again)
    first, period = turn_of(rests)
    early = tuple([many for many in range(1, first) if pair in rests[many - 1]])
    return early, tuple([more for more in range(period) if pair in rests[first - 1 + more]])


def need_right_book(book):
    """Refuses a BOOK that is not right."""
    need_right(book, roads_of(book))


def most_by(rests):
    """MOST ROUNDS of a right BOOK, by its RESTS."""
    return rests.index(()) if () in rests else None


def most_rounds(book, again):
    """MOST ROUNDS, None if it is right with the ROUNDS for all numbers of times."""
    need_asked(book, again)
    need_right_book(book)
    return most_by(rests_of(book, again))


def spans_on(spans, leads):
    """The dict of the least and the greatest HOURS up to each PAIR, one time later."""
    further = {}
    for pair, other in leads:
        if pair in spans:
            hours = leads[(pair, other)]
            least = spans[pair][0] + hours[0]
            most = spans[pair][1] + hours[-1]
            been = further.get(other, (least, most))
            further[other] = (min(been[0], least), max(been[1], most))
    return further


def span(book, again, many):
    """The SPAN of so many times."""
    need_asked(book, again)
    need_times(many, 40)
    need_right_book(book)
    if many == 0:
        return 0, 0
    firsts = first_hours(book, again)
    leads = leads_of(book, again)
    spans = {pair: (firsts[pair][0], firsts[pair][-1]) for pair in firsts}
    for _ in range(many - 1):
        spans = spans_on(spans, leads)
    if not spans:
        raise Nothing(many)
    return min([spans[pair][0] for pair in spans]), max([spans[pair][1] for pair in spans])


def is_less(fraction, other):
    """Whether the one fraction is less than the other one."""
    return fraction[0] * other[1] < other[0] * fraction[1]


def weights_of(leads, pairs, sign):
    """A dict of the pairs (PAIR, OTHER) that are among these, with the least of HOURS, or of those negative."""
    weights = {}
    for pair, other in leads:
        if pair in pairs:
            hours = leads[(pair, other)]
            weights[(pair, other)] = hours[0] if sign == 1 else -hours[-1]
    return weights


def sums_on(sums, weights):
    """The dict of the least sums of weights up to each PAIR, one step later."""
    further = {}
    for pair, other in weights:
        if pair in sums:
            total = sums[pair] + weights[(pair, other)]
            further[other] = min(further.get(other, total), total)
    return further


def worst_mean(rows, pair):
    """The greatest of all fractions by which the sums of a PAIR rise to the last row, per step."""
    last = len(rows) - 1
    worst = None
    for step in range(last):
        fraction = (rows[last][pair] - rows[step][pair], last - step)
        if worst is None or is_less(worst, fraction):
            worst = fraction
    return worst


def least_mean(weights, pairs):
    """The least weight a step, of all rings of PAIRS: a fraction, by Karp's theorem."""
    rows = [{pair: 0 for pair in pairs}]
    for _ in pairs:
        rows.append(sums_on(rows[-1], weights))
    least = None
    for pair in rows[-1]:
        worst = worst_mean(rows, pair)
        if least is None or is_less(worst, least):
            least = worst
    return least


def pace_by(leads, pairs, sign):
    """The LEAST PACE of PAIRS that last, or with the sign -1 the MOST PACE."""
    hours, times = least_mean(weights_of(leads, pairs, sign), pairs)
    common = gcd(hours, times)
    return abs(hours) // common, times // common


def paced(book, again):
    """What tells the PACES of what lasts for ever: PAIRS behind the first time, what leads on, all PAIRS that come."""
    need_asked(book, again)
    need_right_book(book)
    most = most_by(rests_of(book, again))
    if most is not None:
        raise Nothing(most)
    firsts = first_hours(book, again)
    leads = leads_of(book, again)
    return firsts, leads, reached(others_by(book, leads), firsts)


def least_pace(book, again):
    """The LEAST PACE."""
    _, leads, pairs = paced(book, again)
    return pace_by(leads, pairs, 1)


def most_pace(book, again):
    """The MOST PACE."""
    _, leads, pairs = paced(book, again)
    return pace_by(leads, pairs, -1)


def heights_by(weights, pairs):
    """A dict of PAIRS with the least weights of ways to them, all as much greater that the least one is 0."""
    heights = {pair: 0 for pair in pairs}
    for _ in pairs:
        for pair, other in weights:
            heights[other] = min(heights[other], heights[pair] + weights[(pair, other)])
    lowest = min([heights[pair] for pair in pairs])
    return {pair: heights[pair] - lowest for pair in heights}


def lap_between(book, again, layers, step):
    """A LAP by which the one PAIR of a step (PAIR, OTHER, HOURS) leads to the other one, by the layers of all LAPS."""
    pair, other, hours = step
    lap = lap_book(book, again)
    last = sets_at(book, (other[0], (again[-1][2], other[1])))
    return history_in(lap, roads_of(lap), layers[:-1] + [{(pair, hours): last}], adding)[2]


def laps_along(book, again, layers, way, hours_of):
    """The tuple of LAPS from PAIR to PAIR on a way, each in the HOURS that hours_of tells of both."""
    laps = []
    for at in range(1, len(way)):
        step = (way[at - 1], way[at], hours_of(way[at - 1], way[at]))
        laps.append(lap_between(book, again, layers, step))
    return tuple(laps)


def first_lap(book, again, pair):
    """The pair of a HISTORY that agrees and of a LAP behind it to a PAIR that comes behind the first time."""
    wide = written_on(book, again)
    last = len(wide[2]) - 1
    tables = tables_with(wide, last, (pair[0], (again[-1][2], pair[1])))
    residue, stand, courses = history_by(wide, roads_of(wide), tables, None)
    further = len(book[2]) - 1
    return (residue, stand, courses[:further]), courses[further:]


def walk_along(book, again, layers, way):
    """The pair of a HISTORY that agrees and of a WALK behind it from PAIR to PAIR on a way."""
    history, lap = first_lap(book, again, way[0])
    leads = steps_by(layers)
    return history, (lap,) + laps_along(book, again, layers, way, lambda one, other: leads[(one, other)][0])


def ring_paper(book, again, layers, others, hours_of):
    """The triple (HISTORY, WALK, RING) of a RING that goes by what leads on here, in the HOURS that are told.

    What leads on is a dict of all PAIRS that come, with those to which each one leads.
    """
    firsts = first_hours(book, again)
    ring = ring_in(others, lasting(others, list(others)))
    way = way_to(others_by(book, steps_by(layers)), firsts, ring[0])
    history, walk = walk_along(book, again, layers, way)
    return history, walk, laps_along(book, again, layers, ring + ring[:1], hours_of)


def ranks_of(others, pairs):
    """A dict of PAIRS that do not last, with how many times each one can be gone on with."""
    ranks = {}
    rank = 0
    left = pairs
    while left:
        ends = [pair for pair in left if not any([other in left for other in others[pair]])]
        for pair in ends:
            ranks[pair] = rank
        left = [pair for pair in left if pair not in ends]
        rank += 1
    return ranks


def longest_way(others, firsts, ranks):
    """A list of PAIRS from one of the first ones on that is as long as can be."""
    way = []
    further = firsts
    while further:
        way.append(max(further, key=lambda pair: ranks[pair]))
        further = others[way[-1]]
    return way


def ever_paper(book, again):
    """A paper on how many times it may be."""
    need_asked(book, again)
    roads = roads_of(book)
    need_right(book, roads)
    layers = lap_layers(book, again)
    leads = steps_by(layers)
    others = others_by(book, leads)
    firsts = sorted(first_hours(book, again))
    come = {pair: others[pair] for pair in reached(others, firsts)}
    if lasting(come, list(come)):
        return ("ever",) + ring_paper(book, again, layers, come, lambda one, other: leads[(one, other)][0])
    ranks = ranks_of(come, list(come))
    if not firsts:
        return "until", history_within(book, roads), (), ()
    history, walk = walk_along(book, again, layers, longest_way(come, firsts, ranks))
    return "until", history, walk, tuple([(pair, ranks[pair]) for pair in sorted(ranks)])


def pace_paper(book, again, word):
    """A paper on the LEAST PACE or the MOST PACE."""
    sign = 1 if word == "least" else -1
    _, leads, pairs = paced(book, again)
    pace = pace_by(leads, pairs, sign)
    plain = weights_of(leads, pairs, sign)
    weights = {step: pace[1] * plain[step] - sign * pace[0] for step in plain}
    heights = heights_by(weights, pairs)
    # Of a ring that is as short, or as long, as can be no step may rise less than it must.
    tight = {pair: [] for pair in pairs}
    for pair, other in weights:
        if heights[other] == heights[pair] + weights[(pair, other)]:
            tight[pair].append(other)
    told = ring_paper(book, again, lap_layers(book, again), tight, lambda one, other: abs(plain[(one, other)]))
    return (word, pace) + told + (tuple([(pair, heights[pair]) for pair in sorted(heights)]),)


def least_pace_paper(book, again):
    """A paper on the LEAST PACE."""
    return pace_paper(book, again, "least")


def most_pace_paper(book, again):
    """A paper on the MOST PACE."""
    return pace_paper(book, again, "most")
