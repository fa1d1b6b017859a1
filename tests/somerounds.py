"""BOOKS and ROUNDS by a chance that is the same each time."""

import functools
import random

from tests import plainbooks
from tests.plain import after, hours_at, stands
from tests.somebooks import book_by, spoilt, told_entry


def lap_by(chance, lock, stand, many):
    """Some COURSES that lead from a STAND to one with the same level, each with its first STAND, or None."""
    courses, here = [], stand
    for _ in range(many):
        first, course = here, []
        for _ in range(chance.randrange(4)):
            course.append(chance.choice(hours_at(lock, here)))
            here = after(here, course[-1])
        courses.append((first, tuple(course)))
    return courses if here[0] == stand[0] else None


def rounds_by(chance, book, keep):
    """ROUNDS of a BOOK, most of which can be gone again and again."""
    lock, clock, _ = book
    residue, stand = chance.randrange(len(clock[0])), chance.choice(stands(lock))
    courses = None
    while courses is None:
        courses = lap_by(chance, lock, stand, chance.randint(1, 3))
    rows = []
    for first, course in courses:
        residue = (residue + len(course)) % len(clock[0])
        here = plainbooks.last_of(first, course)
        gap = (max(0, len(course) - chance.randrange(3)), len(course) + chance.randrange(3))
        rows.append(told_entry(chance, lock, clock, gap, (residue, here), course, first, keep))
    if chance.random() < 0.2:
        at = chance.randrange(len(rows))
        rows[at] = spoilt(chance, lock, rows[at])
    last = rows[-1]
    rows[-1] = last[:2] + (stand[0] if last[2] is None else last[2],) + last[3:]
    return tuple(rows)


@functools.lru_cache(maxsize=None)
def rounds_by_chance(many, seed, keep=0.3, most_ways=2000):
    """So many pairs of a BOOK, most of them right ones, and of ROUNDS of it."""
    chance = random.Random(seed)
    told = []
    while len(told) < many:
        book = book_by(chance, 3, keep)
        if plainbooks.many_ways(book) <= most_ways and (plainbooks.ways(book) or chance.random() < 0.2):
            told.append((book, rounds_by(chance, book, keep)))
    return told
