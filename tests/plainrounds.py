"""ROUNDS by a plain going through all LAPS, hour by hour, straight by [60] to [64]."""

import functools
from fractions import Fraction
from math import gcd

from tests import plainbooks
from tests.plainbooks import is_int
from tests.plainjudges import ascends, is_paper

BLANK = (None,) * 6 + ((),)


def lap_book(book, again):
    return book[0], book[1], (BLANK,) + again


def pair_of(state):
    return state[0], state[1][1]


def gone_on(book, some, numbers):
    """STATES, each with a set of HOURS, behind ENTRIES of a BOOK with these numbers, each led to from the one ahead."""
    for number in numbers:
        further = {}
        for state, totals in some.items():
            for behind, hours in plainbooks.led(book, number, state):
                if plainbooks.does_suit(book, number, behind):
                    further.setdefault(behind, set()).update(total + hours for total in totals)
        some = further
    return some


@functools.lru_cache(maxsize=None)
def leads(book, again):
    """A dict of the pairs (PAIR, OTHER) of which the one leads to the other one, with the set of HOURS."""
    lap, told = lap_book(book, again), {}
    for residue in range(len(book[1][0])):
        for boats in range(book[0][3] + 1):
            ends = gone_on(lap, {(residue, (again[-1][2], boats)): {0}}, range(1, len(again) + 1))
            for state, totals in ends.items():
                told.setdefault(((residue, boats), pair_of(state)), set()).update(totals)
    return told


def steps(book, again):
    return tuple(sorted((*pair, tuple(sorted(hours))) for pair, hours in leads(book, again).items()))


def states_at_end(book):
    return {been[-1]: {0} for been, _ in plainbooks.ways(book)}


@functools.lru_cache(maxsize=None)
def walked(book, again, many):
    """The STATES, with HOURS since the BOOK's end, with so many times, ENTRY by ENTRY."""
    if many == 0:
        return states_at_end(book)
    return gone_on(lap_book(book, again), walked(book, again, many - 1), range(1, len(again) + 1))


def rest(book, again, many):
    return tuple(sorted({pair_of(state) for state in walked(book, again, many)}))


def turn(book, again, far=40):
    """The TURN, told by as many times as are far more than there are here."""
    rests = [rest(book, again, many) for many in range(far + 1)]
    for first in range(1, far // 2):
        for period in range(1, far // 2 - first + 1):
            if all(rests[many] == rests[many + period] for many in range(first, far - period + 1)):
                return first, period
    raise AssertionError("the RESTS were to come again sooner")


def most_rounds(book, again):
    pairs = len(book[1][0]) * (book[0][3] + 1)
    for many in range(pairs + 2):
        if not rest(book, again, many):
            return many - 1
    return None


def span(book, again, many):
    totals = set().union(*walked(book, again, many).values())
    return (min(totals), max(totals)) if totals else None


def come(book, again):
    """All PAIRS that come from one time on."""
    pairs, told = set(rest(book, again, 1)), leads(book, again)
    while True:
        more = {other for pair, other in told if pair in pairs} | pairs
        if more == pairs:
            return pairs
        pairs = more


def means(book, again):
    """The least and the greatest HOURS a LAP of all rings of PAIRS that come, as fractions."""
    pairs, told = come(book, again), leads(book, again)
    found = []
    for first in pairs:
        lows, highs = {first: 0}, {first: 0}
        for many in range(1, len(pairs) + 1):
            low, high = {}, {}
            for (pair, other), hours in told.items():
                if pair in lows:
                    low[other] = min(low.get(other, 10 ** 9), lows[pair] + min(hours))
                    high[other] = max(high.get(other, -1), highs[pair] + max(hours))
            lows, highs = low, high
            if first in lows:
                found += [Fraction(lows[first], many), Fraction(highs[first], many)]
    return ((min(found).numerator, min(found).denominator), (max(found).numerator, max(found).denominator)) if found else None


# The judges of PAPERS.

def end_of_lap(book, again, state, lap):
    history = (state[0], state[1], lap)
    if not plainbooks.agrees(lap_book(book, again), history):
        return None
    return plainbooks.states_of(lap_book(book, again), history)[-1]


def end_of_laps(book, again, state, laps, fewest):
    if type(laps) is not tuple or not fewest <= len(laps) <= 100:
        return None
    for lap in laps:
        state = state and end_of_lap(book, again, state, lap)
    return state


def end_of_walk(book, again, history, walk, fewest):
    if not plainbooks.agrees(book, history):
        return None
    return end_of_laps(book, again, plainbooks.states_of(book, history)[-1], walk, fewest)


def numbered(book, thing):
    if type(thing) is not tuple or not all(type(row) is tuple and len(row) == 2 for row in thing):
        return None
    for pair, number in thing:
        if type(pair) is not tuple or len(pair) != 2 or not is_int(pair[0], 0, len(book[1][0]) - 1) or not is_int(pair[1], 0, book[0][3]):
            return None
        if type(number) is not int or number < 0:
            return None
    return dict(thing) if ascends([pair for pair, _ in thing]) else None


def is_ring(book, again, history, walk, ring):
    state = end_of_walk(book, again, history, walk, 1)
    return state is not None and end_of_laps(book, again, state, ring, 1) == state


def judge_ever(book, again, paper):
    """The word of a paper that holds, or a pair of "bad" and the part."""
    if is_paper(paper, "ever", 4):
        return "ever" if is_ring(book, again, *paper[1:]) else ("bad", "ever")
    if not is_paper(paper, "until", 4):
        return ("bad", "form")
    bad = ("bad", "until")
    _, history, walk, rows = paper
    ranks = numbered(book, rows)
    if end_of_walk(book, again, history, walk, 0) is None or ranks is None:
        return bad
    if any(ranks.get(pair, len(walk)) >= len(walk) for pair in rest(book, again, 1)):
        return bad
    if any(pair in ranks and ranks.get(other, ranks[pair]) >= ranks[pair] for pair, other in leads(book, again)):
        return bad
    return "until"


def judge_pace(book, again, paper):
    if not is_paper(paper, "least", 6) and not is_paper(paper, "most", 6):
        return ("bad", "form")
    word, pace, history, walk, ring, rows = paper
    bad = ("bad", word)
    if type(pace) is not tuple or len(pace) != 2 or not all(is_int(one, 0, 10 ** 99) for one in pace) or gcd(*pace) != 1 or pace[1] == 0:
        return bad
    heights = numbered(book, rows)
    if heights is None or not is_ring(book, again, history, walk, ring):
        return bad
    if pace[1] * sum(len(course) for lap in ring for course in lap) != pace[0] * len(ring):
        return bad
    if any(pair not in heights for pair in rest(book, again, 1)):
        return bad
    for (pair, other), hours in leads(book, again).items():
        if pair in heights:
            rises = [pace[1] * many - pace[0] if word == "least" else pace[0] - pace[1] * many for many in hours]
            if other not in heights or any(heights[other] > heights[pair] + rise for rise in rises):
                return bad
    return word
