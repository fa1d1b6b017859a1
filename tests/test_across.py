"""What holds across the parts: BOOKS and TOLLS, backwards and upside down, less noted, MENDS and what is possible."""

import random
import unittest

from lockkeeper.books import book_backwards, book_overturned, tolls_of
from lockkeeper.dutypapers import bounds_of
from lockkeeper.duties import all_at_once, at_once, standing_of
from lockkeeper.marks import marked_at
from lockkeeper.maybes import (
    book_added, book_missed, may_boats, may_hear, may_levels, may_residues, sure_things, totals)
from lockkeeper.notes import believable, clashes, corrections, doubt_of, left_out, mends, notes_of
from lockkeeper.stretches import is_lot_within
from lockkeeper.tables import is_right, states_possible
from lockkeeper.tolls import least_toll_added, least_toll_missed, next_heard, toll_totals, tolls_may
from tests import plainbooks
from tests.asking import Asking
from tests.somebooks import GREAT, SMALL, few_notes
from tests.someduties import bounds_by_chance, duty_by_chance, most_running, with_signs

RIGHT = [book for book in SMALL + GREAT if is_right(book)]
SOME = few_notes(40, seed=33)


def numbers_in(stretches):
    return {number for low, high in stretches for number in range(low, high + 1)}


def bare(book):
    """A BOOK with the TOP 0 and the same GAPS, HEARD and SIGNS, and nothing else noted."""
    return (0, 3, 5, book[0][3]), book[1], tuple((*row[:2], None, None, None, None, row[6]) for row in book[2])


def wider(book, chance):
    """The BOOK with more MISSED, more ADDED, and GAPS that reach further."""
    strokes, missed, added = book[1]
    rows = [book[2][0]]
    for row in book[2][1:]:
        least, most = row[0]
        rows.append(((max(0, least - chance.randrange(2)), min(12, most + chance.randrange(2))), *row[1:]))
    if sum(row[0][1] for row in rows[1:]) > 24:
        rows = list(book[2])
    return book[0], (strokes, min(24, missed + chance.randrange(2)), min(24, added + chance.randrange(2))), tuple(rows)


def less(book, chance):
    """The BOOK with some NOTES left out."""
    return left_out(book, tuple(note for note in notes_of(book) if chance.random() < 0.4))


class Tolls(Asking):

    def test_what_may_be_by_a_book_may_be_by_its_tolls(self):
        for book in RIGHT:
            tolls, last = tolls_of(book), len(book[2]) - 1
            for number in range(last + 1):
                self.assertLessEqual(set(may_residues(book, number)), set(tolls_may(tolls, number)))
                for other in range(number, last + 1):
                    self.assertLessEqual(set(totals(book, number, other)), set(toll_totals(tolls, number, other)))
            for gap in [(0, 0), (1, 3), (12, 12)]:
                self.assertLessEqual(numbers_in(may_hear(book, gap)), numbers_in(next_heard(tolls, gap)))

    def test_by_the_clock_alone_it_is_the_same(self):
        for book in SMALL + GREAT:
            other, tolls, last = bare(book), tolls_of(book), len(book[2]) - 1
            self.told(least_toll_missed(tolls), book_missed(other))
            self.told(least_toll_added(tolls), book_added(other))
            if is_right(other):
                for number in range(last + 1):
                    self.told(tolls_may(tolls, number), may_residues(other, number))
                    self.told(toll_totals(tolls, 0, number), totals(other, 0, number))
                for gap in [(0, 0), (1, 3), (12, 12)]:
                    self.told(next_heard(tolls, gap), may_hear(other, gap))

    def test_least_missed_and_added(self):
        for book in SMALL + GREAT:
            for mine, theirs in [(book_missed(book), least_toll_missed(tolls_of(book))), (book_added(book), least_toll_added(tolls_of(book)))]:
                self.assertTrue(mine is None or (theirs is not None and theirs <= mine))


class Turned(Asking):

    def test_what_may_be(self):
        for book in RIGHT:
            top, size, last = book[0][0], len(book[1][0]), len(book[2]) - 1
            over, back = book_overturned(book), book_backwards(book)
            for number in range(last + 1):
                levels, residues = may_levels(book, number), may_residues(book, number)
                self.told(levels, may_levels(back, last - number))
                self.told(tuple((top - high, top - low) for low, high in levels[::-1]), may_levels(over, number))
                self.told(may_boats(book, number), may_boats(back, last - number))
                self.told(may_boats(book, number), may_boats(over, number))
                self.told(tuple(sorted(-residue % size for residue in residues)), may_residues(back, last - number))
                self.told(residues, may_residues(over, number))
                for other in range(number, last + 1):
                    self.told(totals(book, number, other), totals(back, last - other, last - number))
                    self.told(totals(book, number, other), totals(over, number, other))
            turned = {"boats": lambda x: x, "level": lambda x: x, "residue": lambda x: -x % size}
            told = sorted((last - number, word, turned[word](thing)) for number, word, thing in sure_things(book))
            self.told(tuple(told), sure_things(back))

    def test_least_missed_and_added(self):
        for book in SMALL + GREAT:
            for other in (book_overturned(book), book_backwards(book)):
                self.told(book_missed(book), book_missed(other))
                self.told(book_added(book), book_added(other))

    def test_bounds_and_duties(self):
        chance = random.Random(34)
        for book in RIGHT:
            last = len(book[2]) - 1
            over, back = book_overturned(book), book_backwards(book)
            bounds = bounds_by_chance(chance, last + 1)
            if most_running(bounds) < 3:
                other = tuple((last - late, last - early, least, most) for early, late, least, most in bounds)
                self.assertIs(at_once(over, bounds), at_once(book, bounds))
                self.assertIs(at_once(back, other), at_once(book, bounds))
            signed, duty = with_signs(chance, book), duty_by_chance(chance)
            self.assertEqual(standing_of(book_overturned(signed), duty), standing_of(signed, duty))

    def test_mends_and_clashes(self):
        for book in SOME:
            back, last = book_backwards(book), len(book[2]) - 1
            self.told(mends(book), mends(book_overturned(book)))
            self.told(clashes(book), clashes(book_overturned(book)))

            def turned(bunch):
                # MARKS and PASSED go to the ENTRY that stood ahead of theirs.
                return tuple(sorted((last - number + (word in ("marks", "passed")), word) for number, word in bunch))
            self.assertEqual(sorted(turned(bunch) for bunch in mends(book)), list(mends(back)))
            self.assertEqual(sorted(turned(bunch) for bunch in clashes(book)), list(clashes(back)))


class LessNoted(Asking):

    def others(self, book, chance):
        return [less(book, chance), wider(book, chance), wider(less(book, chance), chance)]

    def test_what_may_be(self):
        chance = random.Random(35)
        for book in RIGHT:
            for other in self.others(book, chance):
                self.assertIs(is_right(other), True)
                last = len(book[2]) - 1
                for number in range(last + 1):
                    self.assertLessEqual(set(may_boats(book, number)), set(may_boats(other, number)))
                    self.assertLessEqual(set(may_residues(book, number)), set(may_residues(other, number)))
                    for low, high in may_levels(book, number):
                        self.assertTrue(any(a <= low and high <= b for a, b in may_levels(other, number)))
                    self.assertLessEqual(set(totals(book, 0, number)), set(totals(other, 0, number)))
                self.assertLessEqual(set(sure_things(other)), set(sure_things(book)))
                self.assertLessEqual(numbers_in(may_hear(book, (1, 2))), numbers_in(may_hear(other, (1, 2))))

    def test_least_missed_and_added(self):
        chance = random.Random(36)
        for book in SMALL:
            other = less(book, chance)
            for call in (book_missed, book_added):
                self.assertTrue(call(book) is None or call(other) <= call(book))

    def test_bounds_and_duties(self):
        chance = random.Random(37)
        for book in RIGHT:
            book = with_signs(chance, book)
            bounds = bounds_by_chance(chance, len(book[2]))
            some = (duty_by_chance(chance), duty_by_chance(chance))
            for other in self.others(book, chance):
                if most_running(bounds) < 3:
                    self.assertTrue(at_once(other, bounds) or not at_once(book, bounds))
                self.assertTrue(all_at_once(other, some) or not all_at_once(book, some))
                self.told(bounds_of(book, some[0]), bounds_of(other, some[0]))
                if standing_of(other, some[0]) != "open":
                    self.assertEqual(standing_of(book, some[0]), standing_of(other, some[0]))

    def test_mends_and_clashes(self):
        chance = random.Random(38)
        for book in SOME:
            other = wider(book, chance)
            # Each CLASH of what is noted more loosely is one of the BOOK, or has one.
            for bunch in clashes(other):
                self.assertTrue(any(set(one) <= set(bunch) for one in clashes(book)))
            for bunch in mends(book):
                self.assertTrue(any(set(one) <= set(bunch) for one in mends(other)))
            out = tuple(note for note in notes_of(book) if chance.random() < 0.3)
            held = [bunch for bunch in clashes(book) if not set(bunch) & set(out)]
            self.told(tuple(held), clashes(left_out(book, out)))

    def test_keys(self):
        chance = random.Random(39)
        for book in SMALL:
            other = less(book, chance)
            for number in range(len(book[2])):
                rows = dict(marked_at(other, (("boats", 0, 1),), ("level", number, 1), number))
                for key, lot in marked_at(book, (("boats", 0, 1),), ("level", number, 1), number):
                    self.assertIs(is_lot_within(book[0], lot, rows[key]), True)


class MendsAndStates(Asking):

    def test_what_may_be_without_a_mend_is_believable(self):
        for book in SOME:
            for number in range(len(book[2])):
                told = believable(book, number)
                for bunch in mends(book):
                    possible = states_possible(left_out(book, bunch), number)
                    self.assertTrue(all(is_lot_within(book[0], lot, other) for lot, other in zip(possible, told)))
                some = {state for bunch in mends(book) for state in plainbooks.states_in_sets(states_possible(left_out(book, bunch), number))}
                self.assertEqual(some, plainbooks.states_in_sets(told))

    def test_corrections_are_what_may_be_without_the_note(self):
        for book in SOME:
            for note in notes_of(book):
                if note[1] in ("marks", "passed"):
                    continue
                other = left_out(book, (note,))
                if not is_right(other):
                    self.told((), corrections(book, note))
                    self.assertTrue(doubt_of(book, note) != "clear" or not is_right(book))
                elif note[1] == "level":
                    self.told(may_levels(other, note[0]), corrections(book, note))
                elif note[1] == "boats":
                    self.told(may_boats(other, note[0]), corrections(book, note))
                elif note[0] == len(book[2]) - 1:
                    self.told(may_hear(other, (0, 0)), corrections(book, note))


if __name__ == "__main__":
    unittest.main()
