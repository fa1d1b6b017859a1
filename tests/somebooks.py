"""BOOKS: some that are written out, and some by a chance that is the same each time."""

import functools
import random

from tests import plainbooks
from tests.plain import after, hours_at, passed_after, stands

LOCKS = [(0, 1, 1, 2), (1, 1, 1, 1), (2, 1, 2, 1), (3, 2, 1, 1), (2, 1, 1, 0), (2, 2, 1, 2), (0, 3, 2, 0), (4, 3, 2, 1)]
TWELVE = tuple(range(1, 13))
BLANK = (None, None, None, None, None, None, ())


def entry(gap=None, heard=None, level=None, marks=None, boats=None, passed=None, signs=()):
    return gap, heard, level, marks, boats, passed, signs


# The boat from above to below, and whether it was so in so few hours.
DOWNWARD = ((4, 2, 3, 1), ((1, 2, 3), 0, 0), (
    entry(heard=1, level=4, signs=("a",)), entry((1, 2), heard=2, boats=1), entry((2, 4), level=0, passed=(0, 0, 0, 1), signs=("b",))))

WRITTEN = [
    ((0, 1, 1, 0), ((0,), 0, 0), (entry(),)),
    ((2, 1, 1, 1), ((3, 4), 0, 0), (entry(heard=5),)),
    ((2, 1, 1, 1), ((3, 4), 1, 1), (entry(heard=5, level=1, boats=0, signs=("x", "y", "z")),)),
    DOWNWARD,
    # A LEVEL beyond the MARKS of its own ENTRY: wrong, but a BOOK.
    ((3, 2, 1, 1), ((1,), 0, 0), (entry(), entry((0, 3), level=3, marks=(0, 2)))),
    # The water cannot be so quick.
    ((4, 1, 2, 0), ((1, 2), 0, 0), (entry(level=0), entry((1, 2)), entry((0, 1), level=4))),
    # Each two ENTRIES well by themselves, not all three.
    ((2, 1, 1, 0), ((1, 2, 3, 4), 0, 0), (entry(heard=1), entry((0, 2), heard=3), entry((1, 2), heard=1))),
    ((1, 1, 1, 2), ((1, 1), 0, 0), (entry(boats=0), entry((2, 3), boats=2, passed=(1, 0, 1, 0)), entry((0, 1), heard=1))),
    # Six ENTRIES, GAPS of none.
    ((1, 1, 1, 1), ((2, 5), 0, 0), (entry(), entry((0, 0), 5), entry((1, 1)), entry((0, 0), 2), entry((1, 1), level=0), entry((0, 1), 5))),
    ((0, 1, 1, 2), ((1, 2), 0, 0), (entry(boats=0), entry((1, 1), boats=2, passed=(2, 0, 0, 0)), entry((1, 2), passed=(0, 2, 2, 0)))),
    ((3, 1, 1, 0), (TWELVE, 0, 0), (entry(heard=7, level=3), entry((2, 12), level=0, marks=(0, 3)), entry((0, 12), heard=7))),
]


def told_entry(chance, lock, clock, gap, state, course, stand, keep):
    """An ENTRY of what is so at a STATE behind a COURSE; each thing by some chance only."""
    strokes, missed, added = clock
    levels, passed = [stand[0]], (0, 0, 0, 0)
    for hour in course:
        passed = passed_after(passed, hour)
        stand = after(stand, hour)
        levels.append(stand[0])
    heard = chance.randint(max(0, strokes[state[0]] - missed), strokes[state[0]] + added)
    things = [heard, state[1][0], (min(levels), max(levels)), state[1][1], passed]
    things = [thing if chance.random() < keep else None for thing in things]
    if gap is None or max(passed) > 2:
        things[4] = None
    if gap is None:
        things[2] = None
    signs = tuple(sorted({chance.choice("abc") for _ in range(chance.randrange(3))}))
    return (gap, *things[:5], signs)


def spoilt(chance, lock, row):
    """An ENTRY with one thing put in anyhow."""
    row = list(row)
    at = chance.randrange(1, 6)
    low, high = sorted(chance.randrange(lock[0] + 1) for _ in range(2))
    things = [None, chance.randrange(6), chance.randrange(lock[0] + 1), (low, high), chance.randrange(lock[3] + 1),
              tuple(chance.choice((0, 0, 1)) for _ in range(4))]
    if row[0] is not None or at not in (3, 5):
        row[at] = things[at]
    return tuple(row)


def book_by(chance, most_entries, keep):
    lock = chance.choice(LOCKS)
    clock = (tuple(chance.randrange(5) for _ in range(chance.randint(1, 4))), chance.randrange(2), chance.randrange(2))
    residue, stand = chance.randrange(len(clock[0])), chance.choice(stands(lock))
    rows = [told_entry(chance, lock, clock, None, (residue, stand), (), stand, keep)]
    for _ in range(chance.randrange(most_entries)):
        course, first = [], stand
        for _ in range(chance.randrange(4)):
            course.append(chance.choice(hours_at(lock, stand)))
            stand = after(stand, course[-1])
        residue = (residue + len(course)) % len(clock[0])
        gap = (max(0, len(course) - chance.randrange(3)), len(course) + chance.randrange(2))
        rows.append(told_entry(chance, lock, clock, gap, (residue, stand), course, first, keep))
    for _ in range(chance.choice((0, 1, 2, 4))):
        at = chance.randrange(len(rows))
        rows[at] = spoilt(chance, lock, rows[at])
    return lock, clock, tuple(rows)


@functools.lru_cache(maxsize=None)
def books_by_chance(many, seed=3, most_entries=4, keep=0.45, most_ways=3000):
    """So many BOOKS of small LOCKS and CLOCKS."""
    chance = random.Random(seed)
    told = []
    while len(told) < many:
        book = book_by(chance, most_entries, keep)
        if plainbooks.many_ways(book) <= most_ways:
            told.append(book)
    return told


SMALL = WRITTEN + books_by_chance(160)
FEW = WRITTEN + books_by_chance(60, seed=8, most_entries=3, most_ways=400)


@functools.lru_cache(maxsize=None)
def few_notes(many, seed=21, most_ways=600):
    """BOOKS with from 1 to 5 NOTES; most of them wrong ones, each of which is right without any of them."""
    rights, wrongs = [], []
    for book in books_by_chance(many * 12, seed=seed, keep=0.4, most_ways=most_ways):
        if 1 <= len(plainbooks.notes(book)) <= 5 and plainbooks.many_ways(plainbooks.alone(book, ())) <= 20 * most_ways:
            (wrongs if plainbooks.first_wrong(book) is not None else rights).append(book)
    return (rights[:many // 4] + wrongs)[:many]


BIG = 10 ** 30
GREAT = [
    ((BIG, BIG // 5, BIG // 7, 2), (TWELVE, 1, 1), (
        entry(level=0), entry((0, 5), passed=(0, 0, 1, 0)), entry((1, 6), marks=(0, BIG)), entry((0, 6), boats=1),
        entry((0, 5), heard=2), entry((0, 2), level=BIG // 7, signs=("a",)))),
    ((BIG, 1, BIG, 1), ((1, 2), 0, 0), (entry(level=BIG // 2), entry((0, 12), heard=1), entry((3, 12), level=BIG // 2 + 12))),
    ((BIG, 1, BIG, 1), ((1, 2), 0, 0), (entry(level=BIG // 2), entry((0, 12), heard=1), entry((3, 12), level=BIG // 2 + 25))),
    ((BIG, BIG, BIG, 2), ((3,), 2, 0), (entry(boats=0), entry((0, 3), passed=(2, 0, 0, 2)), entry((12, 12), marks=(1, BIG - 1)))),
    ((BIG - 1, BIG // 3, 1, 2), ((0, 24), 24, 24), (entry(heard=48), entry((12, 12), marks=(0, BIG - 1)), entry((12, 12), heard=24))),
    ((BIG, 10 ** 29, 9 * 10 ** 28, 0), ((1, 2, 3), 0, 0), (
        entry(heard=1, level=BIG), entry((5, 12), level=BIG // 10), entry((0, 12), marks=(0, BIG // 10), heard=2))),
]


def scaled(book, times):
    """A BOOK with levels and rates so many times as great."""
    (top, up, down, room), clock, entries = book
    rows = []
    for gap, heard, level, marks, boats, passed, signs in entries:
        rows.append((gap, heard, None if level is None else level * times,
                     None if marks is None else (marks[0] * times, marks[1] * times), boats, passed, signs))
    return (top * times, up * times, down * times, room), clock, tuple(rows)


# Things that are no BOOKS, each with its place.
ONE = (2, 1, 1, 1)
CLOCK = ((1, 2), 0, 0)
WRONG_BOOKS = [
    (None, "form"), ((), "form"), ((ONE, CLOCK), "form"), ([ONE, CLOCK, (entry(),)], "form"), (True, "form"),
    ((None, None, None), ("lock", "form")), (((2, 1, 1), None, None), ("lock", "form")),
    (((True, 0, 0, 3), None, None), ("lock", "top")), (((2, 0, 0, 3), None, None), ("lock", "up")),
    (((2, 1, BIG + 1, 3), None, None), ("lock", "down")), (((2, 1, 1, 3), None, None), ("lock", "room")),
    ((ONE, None, None), ("clock", "form")), ((ONE, ((), 25, 25), ()), ("clock", "strokes")),
    ((ONE, ((1,), 25, 25), ()), ("clock", "missed")), ((ONE, ((1,), 0, False), ()), ("clock", "added")),
    ((ONE, CLOCK, None), "entries"), ((ONE, CLOCK, ()), "entries"), ((ONE, CLOCK, [entry()]), "entries"),
    ((ONE, CLOCK, (None,)), (0, "form")), ((ONE, CLOCK, (entry()[:6],)), (0, "form")),
    ((ONE, CLOCK, (entry((0, 0)),)), (0, "gap")), ((ONE, CLOCK, (entry(), entry())), (1, "gap")),
    ((ONE, CLOCK, (entry(), entry((2, 1)))), (1, "gap")), ((ONE, CLOCK, (entry(), entry((0, 13)))), (1, "gap")),
    ((ONE, CLOCK, (entry(), entry((0, 1)), entry((0, 1), 100, 3))), (2, "heard")),
    ((ONE, CLOCK, (entry(None, 0, 3, (1, 0)),)), (0, "level")), ((ONE, CLOCK, (entry(marks=(0, 2)),)), (0, "marks")),
    ((ONE, CLOCK, (entry(), entry((0, 1), marks=(0, 3)))), (1, "marks")), ((ONE, CLOCK, (entry(boats=2),)), (0, "boats")),
    ((ONE, CLOCK, (entry(passed=(0, 0, 0, 0)),)), (0, "passed")),
    ((ONE, CLOCK, (entry(), entry((0, 1), passed=(0, 0, 0, 3)))), (1, "passed")),
    ((ONE, CLOCK, (entry(signs=None),)), (0, "signs")), ((ONE, CLOCK, (entry(signs=("b", "a")),)), (0, "signs")),
    ((ONE, CLOCK, (entry(),) + (entry((12, 12)),) * 6), (6, "more")),
    ((ONE, CLOCK, (entry(),) + (entry((0, 9)),) * 4), ("hours", 3)),
]
