"""ROUNDS, LAPS, to what PAIRS lead, and the checks of the PAPERS on ROUNDS."""

from math import gcd

from lockkeeper.bookpapers import any_going, does_agree_with, layer_on, no_sets, roads_of, states_by, suiting_at
from lockkeeper.books import first_beyond, need_book, wrong_part
from lockkeeper.clocks import is_residue
from lockkeeper.errors import BadPaper, BadRounds
from lockkeeper.kinds import is_ascending, is_from, is_tuple_of, is_within, is_worded
from lockkeeper.stretches import lot_of

BLANK = (None, None, None, None, None, None, ())


def need_given_rounds(book, thing):
    """As need_rounds, of what is known to be a BOOK."""
    if not isinstance(thing, tuple) or not 1 <= len(thing) <= 3:
        raise BadRounds("form")
    for at, entry in enumerate(thing):
        if wrong_part(book[0], 1, entry) is not None:
            raise BadRounds(at)
    if thing[-1][2] is None:
        raise BadRounds("end")
    if first_beyond((BLANK,) + thing) is not None:
        raise BadRounds("hours")
    return thing


def need_rounds(book, thing):
    """The thing itself, if it is ROUNDS of the BOOK."""
    need_book(book)
    return need_given_rounds(book, thing)


def written_on(book, again):
    """The BOOK with the ROUNDS behind its ENTRIES, even if it has more ENTRIES and HOURS than a BOOK."""
    return book[0], book[1], book[2] + again


def lap_book(book, again):
    """The BOOK of which HISTORIES have one LAP as their COURSES."""
    return book[0], book[1], (BLANK,) + again


def is_pair(book, thing):
    """Whether any value is a PAIR."""
    return is_tuple_of(thing, 2) and is_residue(book[1], thing[0]) and is_within(thing[1], 0, book[0][3])


def all_pairs(book):
    """The ascending list of all PAIRS."""
    return [(residue, boats) for residue in range(len(book[1][0])) for boats in range(book[0][3] + 1)]


def sets_at(book, state):
    """The SETS of one STATE."""
    sets = list(no_sets(book))
    sets[state[0]] = lot_of(book[0], (state[1],))
    return tuple(sets)


def adding(number, key, hours):
    """Goes on to an ENTRY with a pair of where it began and of the HOURS since then."""
    return key[0], key[1] + hours


def layers_on(book, roads, layer, going):
    """The list of a layer at the first ENTRY and of those to which it leads at the further ones."""
    layers = [layer]
    for number in range(1, len(book[2])):
        layers.append(layer_on(book, roads[number], number, layers[-1], going))
    return layers


def lap_layers(book, again):
    """The list of the layers on the way of all LAPS, with KEYS (PAIR, HOURS): where it began, the HOURS since then."""
    lap = lap_book(book, again)
    end = again[-1][2]
    starts = {(pair, 0): sets_at(book, (pair[0], (end, pair[1]))) for pair in all_pairs(book)}
    return layers_on(lap, roads_of(lap), starts, adding)


def pairs_in(sets):
    """The ascending list of the PAIRS of the STATES of SETS."""
    return [(residue, boats) for residue, lot in enumerate(sets) for boats, part in enumerate(lot) if part]


def steps_by(layers):
    """A dict of the pairs (PAIR, OTHER) of which the one leads to the other one, each with its ascending HOURS."""
    leads = {}
    for pair, hours in sorted(layers[-1]):
        for other in pairs_in(layers[-1][(pair, hours)]):
            leads.setdefault((pair, other), []).append(hours)
    return leads


def leads_of(book, again):
    """As steps_by, of all LAPS."""
    return steps_by(lap_layers(book, again))


def others_by(book, leads):
    """A dict of all PAIRS, each with the list of those to which it leads."""
    others = {pair: [] for pair in all_pairs(book)}
    for pair, other in leads:
        others[pair].append(other)
    return others


def reached(others, firsts):
    """The list of all PAIRS that come from these ones on, these themselves, too."""
    pairs = list(firsts)
    at = 0
    while at < len(pairs):
        pairs.extend([other for other in others[pairs[at]] if other not in pairs])
        at += 1
    return pairs


def lasting(others, pairs):
    """The list of those PAIRS from which one can go on and on among them."""
    left = []
    while len(left) != len(pairs):
        left = pairs
        pairs = [pair for pair in left if any([other in left for other in others[pair]])]
    return pairs


def ring_in(others, pairs):
    """A list of PAIRS, each leading to the next one, the last one to the first one, by those that last."""
    way = [pairs[0]]
    while True:
        other = [further for further in others[way[-1]] if further in pairs][0]
        if other in way:
            return way[way.index(other):]
        way.append(other)


def way_to(others, firsts, goal):
    """A list of PAIRS from one of the first ones to the goal, each leading to the next one."""
    before = {pair: None for pair in firsts}
    pairs = list(firsts)
    for pair in reached(others, firsts):
        for other in others[pair]:
            if other not in before:
                before[other] = pair
    way = [goal]
    while before[way[-1]] is not None:
        way.append(before[way[-1]])
    return way[::-1]


def first_hours(book, again):
    """A dict of the PAIRS behind the first time of the ROUNDS, each with its ascending HOURS since the BOOK's end."""
    wide = written_on(book, again)
    last = len(book[2]) - 1
    layer = {(): suiting_at(book, 0)}
    roads = roads_of(wide)
    for number in range(1, last + 1):
        layer = layer_on(book, roads[number], number, layer, any_going)
    layer = {((), 0): layer[key] for key in layer}
    for number in range(last + 1, len(wide[2])):
        layer = layer_on(wide, roads[number], number, layer, adding)
    told = {}
    for key in sorted(layer):
        for pair in pairs_in(layer[key]):
            told.setdefault(pair, []).append(key[1])
    return told


def end_of_lap(book, again, state, thing):
    """The STATE behind what is a LAP from a STATE, None if any value is none."""
    lap = lap_book(book, again)
    history = (state[0], state[1], thing)
    if not does_agree_with(lap, history):
        return None
    return states_by(lap, history)[-1]


def end_of_laps(book, again, state, thing):
    """The STATE behind LAPS that go on from a STATE, None if any value is no tuple of such."""
    if not isinstance(thing, tuple) or len(thing) > 100:
        return None
    for lap in thing:
        state = end_of_lap(book, again, state, lap)
        if state is None:
            return None
    return state


def end_of_walk(book, again, history, walk):
    """The STATE behind any values that are a HISTORY that agrees and a WALK from its end, None if they are none."""
    if not does_agree_with(book, history):
        return None
    return end_of_laps(book, again, states_by(book, history)[-1], walk)


def is_ring(book, again, history, walk, ring):
    """Whether any values are a HISTORY that agrees, a WALK of a LAP at least, and a RING behind it."""
    state = end_of_walk(book, again, history, walk)
    if state is None or walk == () or not isinstance(ring, tuple) or ring == ():
        return False
    return end_of_laps(book, again, state, ring) == state


def are_numbered(book, thing):
    """Whether any value is an ascending tuple of pairs of a PAIR, none twice, and an integer from 0 on."""
    if not isinstance(thing, tuple):
        return False
    for row in thing:
        if not is_tuple_of(row, 2) or not is_pair(book, row[0]) or not is_from(row[1], 0):
            return False
    return is_ascending([row[0] for row in thing])


def are_ranks(book, again, laps, thing):
    """Whether any value is RANKS, beside a WALK of so many LAPS."""
    if not are_numbered(book, thing):
        return False
    ranks = {pair: rank for pair, rank in thing}
    for pair in first_hours(book, again):
        if pair not in ranks or ranks[pair] >= laps:
            return False
    for pair, other in leads_of(book, again):
        if pair in ranks and (other not in ranks or ranks[other] >= ranks[pair]):
            return False
    return True


def check_ever(book, again, paper):
    """The word of a PAPER on how many times it may be that holds."""
    need_rounds(book, again)
    if is_worded(paper, "ever", 4):
        if not is_ring(book, again, paper[1], paper[2], paper[3]):
            raise BadPaper("ever")
        return "ever"
    if is_worded(paper, "until", 4):
        if end_of_walk(book, again, paper[1], paper[2]) is None or not are_ranks(book, again, len(paper[2]), paper[3]):
            raise BadPaper("until")
        return "until"
    raise BadPaper("form")


def is_pace(thing):
    """Whether any value is a fraction in lowest terms."""
    if not is_tuple_of(thing, 2) or not is_from(thing[0], 0) or not is_from(thing[1], 1):
        return False
    return gcd(thing[0], thing[1]) == 1


def hours_in(ring):
    """How many HOURS LAPS have."""
    return sum([len(course) for lap in ring for course in lap])


def are_heights(book, again, word, pace, thing):
    """Whether any value is HEIGHTS, by a PACE and the word "least" or "most"."""
    if not are_numbered(book, thing):
        return False
    heights = {pair: height for pair, height in thing}
    if not all([pair in heights for pair in first_hours(book, again)]):
        return False
    sign = 1 if word == "least" else -1
    leads = leads_of(book, again)
    for pair, other in leads:
        if pair in heights:
            most = min([heights[pair] + sign * (pace[1] * hours - pace[0]) for hours in leads[(pair, other)]])
            if other not in heights or heights[other] > most:
                return False
    return True


def holds_pace(book, again, paper):
    """Whether a PAPER on a PACE with one of its words holds."""
    word, pace, history, walk, ring, heights = paper
    if not is_pace(pace) or not is_ring(book, again, history, walk, ring):
        return False
    if pace[1] * hours_in(ring) != pace[0] * len(ring):
        return False
    return are_heights(book, again, word, pace, heights)


def check_pace(book, again, paper):
    """The word of a PAPER on a PACE that holds."""
    need_rounds(book, again)
    if not is_worded(paper, "least", 6) and not is_worded(paper, "most", 6):
        raise BadPaper("form")
    if not holds_pace(book, again, paper):
        raise BadPaper(paper[0])
    return paper[0]
