"""The PAPERS on a BOOK, on BOUNDS, DUTIES and NOTES, straight by [23], [33], [35] and [43]: by STATES, one by one."""

from tests import plainbooks
from tests.plain import same
from tests.plainbooks import agrees, is_int, keeps, keeps_duty, led_on, suiting


def is_paper(paper, word, many):
    return type(paper) is tuple and len(paper) == many and same(paper[0], word)


def lengths(history):
    return tuple(len(course) for course in history[2])


def ascends(things):
    return all(one < other for one, other in zip(things, things[1:]))


def states_of_sets(book, thing):
    """The STATES of SETS, None of what is none."""
    if type(thing) is not tuple or len(thing) != len(book[1][0]):
        return None
    told = set()
    for residue, lot in enumerate(thing):
        if type(lot) is not tuple or len(lot) != book[0][3] + 1:
            return None
        for boats, part in enumerate(lot):
            if type(part) is not tuple:
                return None
            last = -2
            for pair in part:
                if type(pair) is not tuple or len(pair) != 2 or not all(is_int(one, 0, book[0][0]) for one in pair):
                    return None
                if not last + 2 <= pair[0] <= pair[1]:
                    return None
                last = pair[1]
                told |= {(residue, (level, boats)) for level in range(pair[0], pair[1] + 1)}
    return told


def are_tables(book, tables):
    if type(tables) is not tuple or not 1 <= len(tables) <= len(book[2]):
        return False
    rows = [states_of_sets(book, sets) for sets in tables]
    if None in rows or rows[-1] or suiting(book, 0) - rows[0]:
        return False
    return not any(led_on(book, number, rows[number - 1]) - rows[number] for number in range(1, len(rows)))


def judge_book(book, paper):
    """The word of a paper that holds, or a pair of "bad" and the part."""
    if is_paper(paper, "right", 2):
        return "right" if agrees(book, paper[1]) else ("bad", "right")
    if is_paper(paper, "wrong", 2):
        return "wrong" if are_tables(book, paper[1]) else ("bad", "wrong")
    return ("bad", "form")


def are_rolls(book, bounds, rolls):
    if type(rolls) is not tuple or not 1 <= len(rolls) <= len(book[2]):
        return False
    held = []
    for roll in rolls:
        if type(roll) is not tuple:
            return False
        for pair in roll:
            if type(pair) is not tuple or len(pair) != 2 or type(pair[0]) is not tuple or len(pair[0]) != len(bounds):
                return False
            if not all(is_int(count, 0, 24) for count in pair[0]) or states_of_sets(book, pair[1]) is None:
                return False
        if not ascends([pair[0] for pair in roll]):
            return False
        held.append({counts: states_of_sets(book, sets) for counts, sets in roll})
    if rolls[-1] != ():
        return False
    noughts, first = (0,) * len(bounds), suiting(book, 0)
    if first and (noughts not in held[0] or first - held[0][noughts]):
        return False
    for number in range(1, len(held)):
        least, most = book[2][number][0]
        for counts, some in held[number - 1].items():
            for hours in range(least, most + 1):
                behind = plainbooks.counts_on(bounds, number, counts, hours)
                reached = led_on(book, number, some, hours) if behind is not None else set()
                if reached and (behind not in held[number] or reached - held[number][behind]):
                    return False
    return True


def judge_bounds(book, bounds, paper):
    if is_paper(paper, "kept", 2):
        if agrees(book, paper[1]) and all(keeps(lengths(paper[1]), bound) for bound in bounds):
            return "kept"
        return ("bad", "kept")
    if is_paper(paper, "clash", 2):
        return "clash" if are_rolls(book, bounds, paper[1]) else ("bad", "clash")
    return ("bad", "form")


def contrary(bound):
    one, other, least, most = bound
    if most is None:
        return None if least == 0 else (one, other, 0, least - 1)
    return None if most == 24 else (one, other, most + 1, None)


def judge_duty(book, duty, paper):
    bounds = plainbooks.bounds_of(book, duty)
    if is_paper(paper, "open", 3):
        if not agrees(book, paper[1]) or not agrees(book, paper[2]):
            return ("bad", "open")
        kept = [keeps_duty(book, lengths(history), duty) for history in paper[1:]]
        return "open" if kept == [True, False] else ("bad", "open")
    if is_paper(paper, "broken", 2):
        return "broken" if are_rolls(book, bounds, paper[1]) else ("bad", "broken")
    if not is_paper(paper, "kept", 2):
        return ("bad", "form")
    if type(paper[1]) is not tuple or len(paper[1]) != len(bounds):
        return ("bad", "kept")
    for bound, rolls in zip(bounds, paper[1]):
        other = contrary(bound)
        if not same(rolls, ()) if other is None else not are_rolls(book, (other,), rolls):
            return ("bad", "kept")
    return "kept"


def is_bunch(book, thing):
    if type(thing) is not tuple:
        return False
    if not all(any(same(note, one) for one in plainbooks.notes(book)) for note in thing):
        return False
    return ascends(thing)


def judge_notes(book, paper):
    if not is_paper(paper, "notes", 3):
        return ("bad", "form")
    bad = ("bad", "notes")
    for rows in paper[1:]:
        if type(rows) is not tuple or not all(type(row) is tuple and len(row) == 2 and is_bunch(book, row[0]) for row in rows):
            return bad
        some = [row[0] for row in rows]
        if not ascends(some) or any(set(one) < set(other) for one in some for other in some):
            return bad
    if not all(agrees(plainbooks.without(book, bunch), history) for bunch, history in paper[1]):
        return bad
    if not all(are_tables(plainbooks.alone(book, bunch), tables) for bunch, tables in paper[2]):
        return bad
    for bunch in plainbooks.bunches(book):
        if not any(set(one) <= set(bunch) for one, _ in paper[1]) and not any(not set(one) & set(bunch) for one, _ in paper[2]):
            return bad
    return "notes"
