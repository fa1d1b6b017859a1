import random
import unittest

from lockkeeper.bookpapers import need_state
from lockkeeper.errors import BadGap, BadNumber, Wrong
from lockkeeper.maybes import (
    book_added, book_missed, may_boats, may_hear, may_levels, may_residues, sure_things, totals)
from lockkeeper.tables import is_right
from tests import plainbooks
from tests.asking import Asking
from tests.plain import OTHERS
from tests.somebooks import BIG, CLOCK, DOWNWARD, GREAT, ONE, SMALL, TWELVE, entry, scaled

RIGHT = [book for book in SMALL if plainbooks.first_wrong(book) is None]
WRONG = [book for book in SMALL if plainbooks.first_wrong(book) is not None]
NO = (ONE, CLOCK, (entry(heard=1), entry((1, 1), heard=1), entry((1, 1))))


def as_stretches(numbers):
    """Integers as STRETCHES."""
    told = []
    for number in sorted(numbers):
        if told and told[-1][1] == number - 1:
            told[-1] = (told[-1][0], number)
        else:
            told.append((number, number))
    return tuple(told)


class May(Asking):

    def test_against_all_histories(self):
        for book in RIGHT:
            sure = []
            for number in range(len(book[2])):
                possible = plainbooks.possible(book, number)
                levels = {level for _, (level, _) in possible}
                boats = {many for _, (_, many) in possible}
                residues = {residue for residue, _ in possible}
                self.told(as_stretches(levels), may_levels(book=book, number=number))
                self.told(tuple(sorted(boats)), may_boats(book=book, number=number))
                self.told(tuple(sorted(residues)), may_residues(book=book, number=number))
                for word, things in (("boats", boats), ("level", levels), ("residue", residues)):
                    sure += [(number, word, thing) for thing in things if len(things) == 1]
            self.told(tuple(sure), sure_things(book=book))
            self.assertEqual(sorted(sure), sure)

    def test_what_is_told(self):
        self.told(((0, "boats", 1), (0, "level", 4), (0, "residue", 0), (1, "boats", 1), (1, "level", 2), (1, "residue", 1),
                   (2, "boats", 0), (2, "level", 0), (2, "residue", 1)), sure_things(
            ((4, 2, 2, 1), ((1, 2), 0, 0), (entry(heard=1, level=4), entry((1, 1), level=2), entry((2, 2), level=0, passed=(0, 0, 0, 1))))))
        book = ((9, 2, 3, 1), ((1, 2, 3), 0, 0), (entry(level=4, boats=0), entry((0, 2)), entry((2, 2), heard=2, level=8)))
        self.told(((4, 8),), may_levels(book, 1))
        self.told((0,), may_boats(book, 1))
        self.told((2,), may_residues(book, 1))
        book = ((9, 2, 3, 1), ((1, 2, 3), 0, 0), (entry(level=0, boats=0), entry((0, 2))))
        self.told(((0, 4),), may_levels(book, 1))
        self.told((0, 1), may_boats(book, 1))
        # Two ranges, with what is between them left out.
        book = ((9, 9, 9, 1), CLOCK, (entry(level=5, boats=0), entry((2, 2), boats=1)))
        self.told(((0, 0), (9, 9)), may_levels(book, 1))

    def test_great_books(self):
        for book in GREAT:
            if is_right(book):
                for number in range(len(book[2])):
                    for low, high in may_levels(book, number):
                        self.assertTrue(0 <= low <= high <= book[0][0])
                    for residue in may_residues(book, number):
                        need_state(book, (residue, (may_levels(book, number)[0][0], may_boats(book, number)[0])))
        half = BIG // 2
        self.told(((half, half + 12),), may_levels(GREAT[1], 1))
        self.told(((0, "level", half), (1, "residue", 0), (2, "level", half + 12)), sure_things(GREAT[1]))

    def test_wrong_arguments(self):
        calls = (may_levels, may_boats, may_residues)
        for call in calls:
            for thing in OTHERS + [-1, 3, (0,)]:
                self.refused(BadNumber, {"given": thing}, call, DOWNWARD, thing)
                self.refused(BadNumber, {"given": thing}, call, NO, thing)
            self.refuses_wrong_books(lambda book, call=call: call(book, None))
        self.refuses_wrong_books(sure_things, lambda book: totals(book, None, None), lambda book: may_hear(book, None), book_missed, book_added)
        for book in WRONG:
            number = plainbooks.first_wrong(book)
            for call in calls:
                self.refused(Wrong, {"number": number}, call, book, 0)
            self.refused(Wrong, {"number": number}, sure_things, book)
            self.refused(Wrong, {"number": number}, totals, book, 0, 0)
            self.refused(Wrong, {"number": number}, may_hear, book, (0, 12))


class Totals(Asking):

    def test_against_all_histories(self):
        for book in RIGHT:
            told = {}
            for number in range(len(book[2])):
                for other in range(number, len(book[2])):
                    had = {sum(hours[number:other]) for _, hours in plainbooks.ways(book)}
                    told[(number, other)] = set(totals(book=book, number=number, other=other))
                    self.told(tuple(sorted(had)), totals(book, number, other))
                self.told((0,), totals(book, number, number))
            for one, other in told:
                for between in range(one, other + 1):
                    sums = {early + late for early in told[(one, between)] for late in told[(between, other)]}
                    self.assertLessEqual(told[(one, other)], sums)

    def test_not_each_sum_is_one(self):
        # From the RESIDUE 0 in 1 or 3 HOURS to 1 or 3, from there in 3 or 1 to 0; never in 2 or 6 in all.
        book = ((0, 1, 1, 0), ((1, 2, 3, 2), 0, 0), (entry(heard=1), entry((0, 3), heard=2), entry((0, 3), heard=1)))
        self.told((1, 3), totals(book, 0, 1))
        self.told((1, 3), totals(book, 1, 2))
        self.told((4,), totals(book, 0, 2))

    def test_great_books(self):
        self.told(tuple(range(12, 25)), totals(GREAT[1], 0, 2))
        self.told((24,), totals(GREAT[4], 0, 2))

    def test_wrong_numbers(self):
        for book in (DOWNWARD, NO):
            for thing in OTHERS + [-1, 3, (0,)]:
                self.refused(BadNumber, {"given": thing}, totals, book, thing, Ellipsis)
                self.refused(BadNumber, {"given": thing}, totals, book, 0, thing)
            self.refused(BadNumber, {"given": 1}, totals, book, 2, 1)


class Hear(Asking):

    def test_against_further_entries(self):
        chance = random.Random(13)
        for book in RIGHT:
            for gap in [(0, 0), (1, 2), tuple(sorted(chance.randrange(13) for _ in range(2)))]:
                told = may_hear(book=book, gap=gap)
                self.assertEqual(told, tuple(sorted(told)))
                if len(book[2]) < 6 and sum(row[0][1] for row in book[2][1:]) + gap[1] <= 24:
                    heard = [many for many in range(12) if is_right((*book[:2], book[2] + (entry(gap, many),)))]
                    self.told(as_stretches(heard), tuple((low, min(high, 11)) for low, high in told if low <= 11))

    def test_what_is_told(self):
        clock = ((1, 5, 9, 24), 1, 2)
        self.told(((0, 3),), may_hear((ONE, clock, (entry(heard=0),)), (0, 0)))
        self.told(((0, 3), (8, 11), (23, 26)), may_hear((ONE, clock, (entry(heard=3, level=0),)), (2, 4)))
        self.told(((4, 11),), may_hear((ONE, clock, (entry(heard=25), entry((2, 2)))), (0, 1)))
        self.told(((0, 11), (23, 26)), may_hear((ONE, clock, (entry(),)), (12, 12)))
        self.told(((0, 48),), may_hear((ONE, ((24,), 24, 24), (entry(heard=48),)), (12, 12)))
        self.told(((0, 0), (24, 24)), may_hear((ONE, ((0, 24), 0, 0), (entry(),)), (0, 0)))
        # A seventh ENTRY, and more than 24 HOURS.
        rows = (entry(heard=3), entry((12, 12)), entry((12, 12))) + (entry((0, 0)),) * 3
        self.told(((3, 3),), may_hear((ONE, (TWELVE, 0, 0), rows), (12, 12)))

    def test_wrong_gaps(self):
        for book in (DOWNWARD, NO):
            for thing in OTHERS + [(), (0,), (0, 0, 0), (1, 0), (-1, 0), (0, 13), (False, 0), [0, 0], (0, True)]:
                self.refused(BadGap, {"given": thing}, may_hear, book, thing)


class Missed(Asking):

    def test_against_all_pairs(self):
        told = {None: 0}
        for book in SMALL:
            lock, (strokes, missed, added), entries = book
            well = [many for many in range(25) if plainbooks.ways((lock, (strokes, many, added), entries))]
            self.told(min(well, default=None), book_missed(book=book))
            told[min(well, default=None)] = told.get(min(well, default=None), 0) + 1
            well = [many for many in range(25) if plainbooks.ways((lock, (strokes, missed, many), entries))]
            self.told(min(well, default=None), book_added(book=book))
        self.assertTrue(told[0] > 20 and told[None] > 10 and len(told) > 3, told)

    def test_edges(self):
        for heard, missed, added in [(0, 24, None), (24, 0, 0), (48, None, 24), (49, None, None), (99, None, None), (None, 0, 0)]:
            book = (ONE, ((24, 24), 7, 0), (entry(), entry((1, 1), heard=heard)))
            self.told(missed, book_missed(book))
            book = (ONE, ((24, 24), 0, 7), (entry(), entry((1, 1), heard=heard)))
            self.told(added, book_added(book))
        beyond = (ONE, CLOCK, (entry(level=0), entry((0, 1), level=2)))
        self.told(None, book_missed(beyond))
        self.told(None, book_added(beyond))

    def test_great_books(self):
        for book in GREAT:
            small = scaled(book, 1)
            self.told(book_missed(small), book_missed(book))
            for call, at in ((book_missed, 1), (book_added, 2)):
                least = call(book)
                for many in range(25):
                    clock = tuple(many if place == at else thing for place, thing in enumerate(book[1]))
                    self.assertIs(is_right((book[0], clock, book[2])), least is not None and many >= least)


if __name__ == "__main__":
    unittest.main()
