"""BOUNDS and DUTIES, and the checks of the PAPERS on them."""

from lockkeeper.bookpapers import (
    are_sets, does_agree_with, has_any, is_layer_within, layer_on, roads_of, suiting_at)
from lockkeeper.books import is_entry_number, is_letter, need_book
from lockkeeper.errors import BadBound, BadDuty, BadPaper, TooMany
from lockkeeper.kinds import is_ascending, is_tuple_of, is_within, is_worded

WORDS = ("within", "not before")


def is_bound(book, thing):
    """Whether any value is a BOUND of the BOOK."""
    if not is_tuple_of(thing, 4):
        return False
    one, other, least, most = thing
    if not is_entry_number(book, other) or not is_within(one, 0, other - 1):
        return False
    return is_within(least, 0, 24) and (most is None or is_within(most, least, 24))


def need_bounds(book, thing):
    """The thing itself, if it is BOUNDS of the BOOK."""
    need_book(book)
    if not isinstance(thing, tuple) or len(thing) > 10:
        raise BadBound(thing)
    for bound in thing:
        if not is_bound(book, bound):
            raise BadBound(bound)
    return thing


def is_duty(thing):
    """Whether any value is a DUTY."""
    if not is_tuple_of(thing, 4):
        return False
    sign, other, hours, word = thing
    if not is_letter(sign) or not is_letter(other) or not is_within(hours, 0, 24):
        return False
    return isinstance(word, str) and word in WORDS


def need_duty(thing):
    """The thing itself, if it is a DUTY."""
    if not is_duty(thing):
        raise BadDuty(thing)
    return thing


def bound_pairs(book, duty):
    """As bound_by, of arguments that are known to be such."""
    entries = book[2]
    pairs = []
    for other in range(len(entries)):
        for one in range(other):
            between = [number for number in range(one + 1, other) if duty[1] in entries[number][6]]
            if duty[0] in entries[one][6] and duty[1] in entries[other][6] and not between:
                pairs.append((one, other))
    return tuple(pairs)


def bound_by(book, duty):
    """The tuple of the pairs of numbers of all ENTRIES that the DUTY binds."""
    need_book(book)
    return bound_pairs(book, need_duty(duty))


def bounds_by(book, duty):
    """As bounds_of, of arguments that are known to be such."""
    _, _, hours, word = duty
    firsts = {}
    lasts = {}
    for one, other in bound_pairs(book, duty):
        firsts.setdefault(other, one)
        lasts[other] = one
    if word == "within":
        return tuple([(firsts[other], other, 0, hours) for other in firsts])
    return tuple([(lasts[other], other, hours, None) for other in lasts])


def bounds_of(book, duty):
    """The BOUNDS of the DUTY."""
    need_book(book)
    return bounds_by(book, need_duty(duty))


def contrary_of(bound):
    """The CONTRARY of a BOUND of a DUTY, None if there is none."""
    one, other, least, most = bound
    if most is None:
        return (one, other, 0, least - 1) if least > 0 else None
    return (one, other, most + 1, None) if most < 24 else None


def is_kept(history, bound):
    """Whether a HISTORY keeps a BOUND."""
    one, other, least, most = bound
    hours = sum([len(course) for course in history[2][one:other]])
    return hours >= least and (most is None or hours <= most)


def are_kept(history, bounds):
    """Whether a HISTORY keeps all BOUNDS."""
    return all([is_kept(history, bound) for bound in bounds])


def keeps_all(book, bounds, value):
    """Whether any value is a HISTORY of the BOOK that agrees and keeps all BOUNDS."""
    need_bounds(book, bounds)
    return does_agree_with(book, value) and are_kept(value, bounds)


def need_few(book, bounds):
    """Refuses BOUNDS of which more than 2 run from some ENTRY to the next one."""
    for number in range(len(book[2]) - 1):
        if len([bound for bound in bounds if bound[0] <= number < bound[1]]) > 2:
            raise TooMany(2)


def count_behind(bound, number, count, hours):
    """The count of a BOUND at an ENTRY, so many HOURS behind a count at the one ahead; None if it is broken."""
    one, other, least, most = bound
    if not one < number <= other:
        return 0
    total = count + hours
    if (most is not None and total > most) or (number == other and total < least):
        return None
    if number == other:
        return 0
    return min(total, least) if most is None else total


def counting(bounds):
    """A function of the number of an ENTRY, of COUNTS at the one ahead, and of HOURS: the COUNTS then.

    It tells None if a BOUND is broken.
    """
    def counts_behind(number, counts, hours):
        """The COUNTS behind these, or None."""
        behind = [count_behind(bound, number, count, hours) for bound, count in zip(bounds, counts)]
        return None if None in behind else tuple(behind)
    return counts_behind


def is_counted(book, bounds, thing):
    """Whether any value is a pair (COUNTS, SETS)."""
    if not is_tuple_of(thing, 2) or not is_tuple_of(thing[0], len(bounds)):
        return False
    return all([is_within(count, 0, 24) for count in thing[0]]) and are_sets(book, thing[1])


def is_roll(book, bounds, thing):
    """Whether any value has the form of ROLLS at one ENTRY."""
    if not isinstance(thing, tuple) or not all([is_counted(book, bounds, pair) for pair in thing]):
        return False
    return is_ascending([pair[0] for pair in thing])


def are_rolls(book, roads, bounds, rolls):
    """Whether any value is ROLLS by which a paper ("clash", ROLLS) on the BOUNDS holds."""
    if not isinstance(rolls, tuple) or not 1 <= len(rolls) <= len(book[2]):
        return False
    if not all([is_roll(book, bounds, roll) for roll in rolls]) or rolls[-1] != ():
        return False
    layers = [{counts: sets for counts, sets in roll} for roll in rolls]
    led = {(0,) * len(bounds): suiting_at(book, 0)} if has_any(suiting_at(book, 0)) else {}
    for number in range(len(layers)):
        if number > 0:
            led = layer_on(book, roads[number], number, layers[number - 1], counting(bounds))
        if not is_layer_within(led, layers[number]):
            return False
    return True


def check_bounds(book, bounds, paper):
    """The word of a PAPER on the BOUNDS that holds."""
    need_bounds(book, bounds)
    need_few(book, bounds)
    if is_worded(paper, "kept", 2):
        if not does_agree_with(book, paper[1]) or not are_kept(paper[1], bounds):
            raise BadPaper("kept")
        return "kept"
    if is_worded(paper, "clash", 2):
        if not are_rolls(book, roads_of(book), bounds, paper[1]):
            raise BadPaper("clash")
        return "clash"
    raise BadPaper("form")


def holds_open(book, bounds, paper):
    """Whether a PAPER ("open", HISTORY, OTHER) on a DUTY with these BOUNDS holds."""
    if not does_agree_with(book, paper[1]) or not does_agree_with(book, paper[2]):
        return False
    return are_kept(paper[1], bounds) and not are_kept(paper[2], bounds)


def holds_kept(book, roads, bounds, some):
    """Whether a PAPER ("kept", SOME) on a DUTY with these BOUNDS holds."""
    if not is_tuple_of(some, len(bounds)):
        return False
    for bound, rolls in zip(bounds, some):
        contrary = contrary_of(bound)
        if contrary is None:
            if not isinstance(rolls, tuple) or rolls != ():
                return False
        elif not are_rolls(book, roads, (contrary,), rolls):
            return False
    return True


def is_paper_on_duty(book, duty, paper):
    """Whether a paper with one of the words of PAPERS on a DUTY holds."""
    bounds = bounds_by(book, duty)
    if paper[0] == "open":
        return holds_open(book, bounds, paper)
    roads = roads_of(book)
    if paper[0] == "broken":
        return are_rolls(book, roads, bounds, paper[1])
    return holds_kept(book, roads, bounds, paper[1])


def check_duty(book, duty, paper):
    """The word of a PAPER on the DUTY that holds."""
    need_book(book)
    need_duty(duty)
    if not is_worded(paper, "open", 3) and not is_worded(paper, "broken", 2) and not is_worded(paper, "kept", 2):
        raise BadPaper("form")
    if not is_paper_on_duty(book, duty, paper):
        raise BadPaper(paper[0])
    return paper[0]
