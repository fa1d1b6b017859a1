"""TREES and the PAPERS on them by a plain going through all HISTORIES and all TREES, straight by [50] to [53]."""

import functools
import itertools

from tests import plainbooks
from tests.plainbooks import is_int
from tests.plainjudges import ascends, is_paper, lengths, states_of_sets


def rows(book, menu, claim):
    """All pairs of ANSWERS and of what the CLAIM is."""
    return {(tuple(plainbooks.look_by(been, hours, look) for look in menu), plainbooks.look_by(been, hours, claim))
            for been, hours in plainbooks.ways(book)}


def claim_word(book, claim):
    return {(True,): "sure", (False,): "never"}.get(tuple({worth for _, worth in rows(book, (), claim)}), "open")


def end_of(tree, answers):
    if tree is True or tree is False:
        return tree
    return end_of(tree[1] if answers[tree[0]] else tree[2], answers)


def deep(tree):
    return 1 if type(tree) is bool else 1 + max(deep(tree[1]), deep(tree[2]))


@functools.lru_cache(maxsize=None)
def trees(numbers, deepest):
    """All TREES with these numbers that are at most so deep."""
    if deepest == 1:
        return [True, False]
    lower = trees(numbers, deepest - 1)
    return [True, False] + [(number, yes, no) for number in numbers for yes in lower for no in lower]


def told_by(many, numbers, deepest):
    """What TREES with these numbers, so deep at most, tell of all ANSWERS of so many LOOKS: a set of tuples."""
    every = list(itertools.product((False, True), repeat=many))
    if deepest == 1:
        return {(worth,) * len(every) for worth in (False, True)}
    lower = told_by(many, numbers, deepest - 1)
    further = {tuple(one[at] if answers[number] else other[at] for at, answers in enumerate(every))
               for number in numbers for one in lower for other in lower}
    return lower | further


@functools.lru_cache(maxsize=None)
def tellings(many, numbers, deepest):
    return sorted(told_by(many, numbers, deepest))


def is_told(some, many, tellings_of):
    """Whether one of the tellings of all ANSWERS is right by some rows."""
    places = {answers: at for at, answers in enumerate(itertools.product((False, True), repeat=many))}
    return any(all(told[places[answers]] == worth for answers, worth in some) for told in tellings_of)


def depth(book, menu, claim):
    some, many = rows(book, menu, claim), len(menu)
    for deepest in (1, 2, 3, 4):
        if is_told(some, many, tellings(many, tuple(range(many)), deepest)):
            return deepest - 1
    return None


def first_looks(book, menu, claim):
    some, many, least = rows(book, menu, claim), len(menu), depth(book, menu, claim)
    if not least:
        return ()
    lower = tellings(many, tuple(range(many)), least)
    return tuple(number for number in range(many)
                 if all(is_told({row for row in some if row[0][number] is worth}, many, lower) for worth in (True, False)))


def is_enough(book, menu, claim, numbers):
    return is_told(rows(book, menu, claim), len(menu), tellings(len(menu), numbers, 4))


def scant_lots(book, menu, claim):
    told = []
    for size in range(len(menu) + 1):
        for numbers in itertools.combinations(range(len(menu)), size):
            fewer = itertools.combinations(numbers, size - 1) if size else ()
            if is_enough(book, menu, claim, numbers) and not any(is_enough(book, menu, claim, less) for less in fewer):
                told.append(numbers)
    return tuple(sorted(told))


# The judge of PAPERS.

def is_tree(menu, thing, deepest=4):
    if type(thing) is bool:
        return True
    if deepest == 1 or type(thing) is not tuple or len(thing) != 3 or not is_int(thing[0], 0, len(menu) - 1):
        return False
    return is_tree(menu, thing[1], deepest - 1) and is_tree(menu, thing[2], deepest - 1)


def is_key(book, looks, number, key):
    if type(key) is not tuple or len(key) != 3 or not is_int(key[0], 0, len(book[1][0]) - 1):
        return False
    if any(type(part) is not tuple or len(part) != len(looks) for part in key[1:]):
        return False
    for look, told, since in zip(looks, key[1], key[2]):
        last = look[2] if look[0] == "between" else look[1]
        if not is_int(told, *((2, 2) if last > number else (0, 1))):
            return False
        if look[0] == "between" and look[1] <= number < look[2]:
            if not is_int(since, 0, look[3]):
                return False
        elif not is_int(since, -1, -1):
            return False
    return True


def rows_of(book, looks, number, thing):
    """A dict of the KEYS of MARKED SETS with the STANDS of each, None of what is none."""
    if type(thing) is not tuple or len(thing) > 2000:
        return None
    told = {}
    for row in thing:
        if type(row) is not tuple or len(row) != 2 or not is_key(book, looks, number, row[0]):
            return None
        states = states_of_sets((book[0], ((0,), 0, 0), None), (row[1],))
        if not states:
            return None
        told[row[0]] = {stand for _, stand in states}
    return told if ascends([row[0] for row in thing]) else None


def key_on(looks, number, key, state, hours):
    """The KEY at an ENTRY, so many HOURS behind one at the ENTRY ahead; at the first ENTRY of no KEY."""
    told, since = [], []
    for at, look in enumerate(looks):
        last = look[2] if look[0] == "between" else look[1]
        before = None if key is None else key[2][at]
        if last < number:
            told.append(key[1][at])
        elif last > number:
            told.append(2)
        elif look[0] == "between":
            told.append(int(before + hours >= look[3]))
        else:
            worth = {"hour": lambda: state[0] in look[2], "level": lambda: state[1][0] >= look[2],
                     "boats": lambda: state[1][1] >= look[2]}[look[0]]()
            told.append(int(worth))
        if look[0] != "between" or not look[1] <= number < look[2]:
            since.append(-1)
        else:
            since.append(0 if look[1] == number else min(look[3], before + hours))
    return state[0], tuple(told), tuple(since)


def are_marked(book, looks, tables):
    if type(tables) is not tuple or len(tables) != len(book[2]):
        return False
    held = [rows_of(book, looks, number, thing) for number, thing in enumerate(tables)]
    if None in held:
        return False
    for state in plainbooks.suiting(book, 0):
        if state[1] not in held[0].get(key_on(looks, 0, None, state, 0), ()):
            return False
    for number in range(1, len(held)):
        for key, some in held[number - 1].items():
            for stand in some:
                for state, hours in plainbooks.led(book, number, (key[0], stand)):
                    if plainbooks.does_suit(book, number, state):
                        if state[1] not in held[number].get(key_on(looks, number, key, state, hours), ()):
                            return False
    return True


def judge_looks(book, menu, claim, paper):
    """The word of a paper that holds, or a pair of "bad" and the part."""
    looks = menu + (claim,)
    if is_paper(paper, "tree", 3):
        if not is_tree(menu, paper[1]) or not are_marked(book, looks, paper[2]):
            return ("bad", "tree")
        told = [key[1] for key, _ in paper[2][-1]]
        return "tree" if all(end_of(paper[1], row) == bool(row[-1]) for row in told) else ("bad", "tree")
    if is_paper(paper, "alike", 3):
        if not all(plainbooks.agrees(book, history) for history in paper[1:]):
            return ("bad", "alike")
        one, other = [tuple(plainbooks.look_by(plainbooks.states_of(book, history), lengths(history), look) for look in looks)
                      for history in paper[1:]]
        return "alike" if one[:-1] == other[:-1] and one[-1] and not other[-1] else ("bad", "alike")
    return ("bad", "form")

