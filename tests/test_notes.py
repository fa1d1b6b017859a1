import random
import unittest

from lockkeeper.bookpapers import agrees
from lockkeeper.books import need_book
from lockkeeper.errors import BadBunch, BadNote, BadNumber, TooMany
from lockkeeper.notepapers import check_notes
from lockkeeper.notes import (
    believable, clashes, corrections, doubt_of, fewest, kept_alone, left_out, mends, notes_of, notes_paper)
from lockkeeper.tables import is_right, states_possible
from tests import plainbooks
from tests.asking import Asking
from tests.plain import OTHERS, same
from tests.plainjudges import judge_notes
from tests.somebooks import BIG, CLOCK, DOWNWARD, GREAT, ONE, SMALL, entry, few_notes, scaled

SOME = few_notes(70)
# The water cannot be so quick; nor was 9 struck.
BOOK = ((9, 2, 3, 1), ((1, 2, 3), 0, 0), (
    entry(heard=1, level=0), entry((1, 2), heard=9), entry((0, 1), level=8, boats=1, signs=("a",))))
FIVE = (ONE, CLOCK, (entry(heard=1, level=0, boats=0), entry((0, 2), marks=(0, 1), passed=(0, 0, 0, 0))))
SIX = (ONE, CLOCK, (entry(heard=1, level=0, boats=0), entry((0, 2), marks=(0, 1), passed=(0, 0, 0, 0)), entry((0, 1), boats=1)))


def as_pairs(numbers):
    told = []
    for number in sorted(numbers):
        if told and told[-1][1] == number - 1:
            told[-1] = (told[-1][0], number)
        else:
            told.append((number, number))
    return tuple(told)


def put(book, note, thing):
    """The BOOK with another thing in the place of a NOTE."""
    rows = [list(row) for row in book[2]]
    rows[note[0]][plainbooks.PLACES[note[1]]] = thing
    return book[0], book[1], tuple(tuple(row) for row in rows)


class Bunches(Asking):

    def test_notes_of(self):
        self.told(((0, "heard"), (0, "level"), (1, "heard"), (2, "boats"), (2, "level")), notes_of(book=BOOK))
        self.told(((0, "boats"), (0, "heard"), (0, "level"), (1, "marks"), (1, "passed")), notes_of(FIVE))
        self.told((), notes_of((ONE, CLOCK, (entry(signs=("a",)), entry((0, 1))))))
        for book in SMALL + GREAT:
            self.told(plainbooks.notes(book), notes_of(book))
            self.assertEqual(list(notes_of(book)), sorted(notes_of(book)))

    def test_left_out_and_kept_alone(self):
        bunch = ((0, "level"), (1, "heard"), (2, "boats"))
        self.told((*BOOK[:2], (entry(heard=1), entry((1, 2)), entry((0, 1), level=8, signs=("a",)))), left_out(book=BOOK, bunch=bunch))
        self.told((*BOOK[:2], (entry(level=0), entry((1, 2), heard=9), entry((0, 1), boats=1, signs=("a",)))),
                  kept_alone(book=BOOK, bunch=bunch))
        for book in SMALL + GREAT:
            some = notes_of(book)
            self.told(book, left_out(book, ()))
            self.told(book, kept_alone(book, some))
            self.told(kept_alone(book, ()), left_out(book, some))
            self.assertIs(is_right(left_out(book, some)), True)
            for at in range(len(some)):
                self.told(plainbooks.without(book, some[:at]), left_out(book, some[:at]))
                self.told(left_out(book, some[:at]), kept_alone(book, some[at:]))
                need_book(left_out(book, some[at:]))

    def test_wrong_bunches(self):
        for call in (left_out, kept_alone):
            for thing in OTHERS + [[(0, "level")], ((0, "level"), (0, "heard")), ((0, "level"), (0, "level")), ((0, "boats"),), ((3, "level"),),
                                   ((-1, "level"),), ((False, "level"),), ((0, "gap"),), ((0, "signs"),), ((2, "signs"),), ((0, b"level"),),
                                   ((0,),), ((0, "level", 0),), (None,), ((0, None),), ((0, "marks"),), ([0, "level"],), ((0, "level"), None)]:
                self.refused(BadBunch, {"given": thing}, call, BOOK, thing)
            self.refuses_wrong_books(lambda book, call=call: call(book, None))

    def test_more_than_five_notes(self):
        self.assertEqual(len(notes_of(SIX)), 6)
        self.told(SIX, left_out(SIX, ()))
        self.told((*SIX[:2], (entry(heard=1, level=0), entry((0, 2), marks=(0, 1), passed=(0, 0, 0, 0)), entry((0, 1), boats=1))),
                  left_out(SIX, ((0, "boats"),)))
        self.told(((0, 1),), corrections(SIX, (0, "level")))
        for call in (mends, clashes, fewest, notes_paper):
            self.refused(TooMany, {"most": 5}, call, SIX)
        self.refused(TooMany, {"most": 5}, doubt_of, SIX, (0, "level"))
        self.refused(TooMany, {"most": 5}, believable, SIX, 0)
        self.refused(BadNote, {"given": (0, "passed")}, doubt_of, SIX, (0, "passed"))
        self.refused(BadNumber, {"given": 3}, believable, SIX, 3)
        for call in (mends, clashes, fewest, notes_paper):
            call(FIVE)
        self.assertEqual(doubt_of(FIVE, (1, "passed")), "clear")


class Mends(Asking):

    def test_against_all_bunches(self):
        sizes = {}
        for book in SOME:
            told = mends(book=book)
            self.told(plainbooks.mends(book), told)
            self.told(plainbooks.clashes(book), clashes(book=book))
            self.told(min(len(bunch) for bunch in told), fewest(book=book))
            sizes[len(told)] = sizes.get(len(told), 0) + 1
            for note in notes_of(book):
                had = [note in bunch for bunch in told]
                self.assertEqual(doubt_of(book=book, note=note), "sure" if all(had) else "suspect" if any(had) else "clear")
        self.assertTrue(len(sizes) > 2 and sizes[1] > 20 and sizes[2] > 5, sizes)

    def test_what_is_told(self):
        self.told((((0, "level"), (1, "heard")), ((1, "heard"), (2, "level"))), mends(BOOK))
        self.told((((0, "level"), (2, "level")), ((1, "heard"),)), clashes(BOOK))
        self.told(2, fewest(BOOK))
        self.assertEqual([doubt_of(BOOK, note) for note in notes_of(BOOK)], ["clear", "suspect", "sure", "clear", "suspect"])
        # A LEVEL beyond the MARKS of its own ENTRY.
        book = ((3, 2, 1, 1), ((1,), 0, 0), (entry(), entry((0, 3), level=3, marks=(0, 2))))
        self.told((((1, "level"),), ((1, "marks"),)), mends(book))
        self.told((((1, "level"), (1, "marks")),), clashes(book))

    def test_no_notes(self):
        book = (ONE, CLOCK, (entry(signs=("a",)), entry((12, 12)), entry((12, 12))))
        self.told(((),), mends(book))
        self.told((), clashes(book))
        self.told(0, fewest(book))
        self.told(("notes", 1, 0), (lambda paper: (paper[0], len(paper[1]), len(paper[2])))(notes_paper(book)))

    def test_facts(self):
        for book in SOME:
            mended, clashing, some = mends(book), clashes(book), notes_of(book)
            self.assertIs(is_right(book), mended == ((),))
            self.assertIs(is_right(book), clashing == ())
            for bunch in plainbooks.bunches(book):
                hits = all(set(bunch) & set(other) for other in clashing)
                self.assertIs(is_right(left_out(book, bunch)), hits)
                self.assertIs(is_right(left_out(book, bunch)), any(set(other) <= set(bunch) for other in mended))
                hits = all(set(bunch) & set(other) for other in mended)
                self.assertIs(is_right(kept_alone(book, bunch)), not hits)
            for note in some:
                word = doubt_of(book, note)
                self.assertIs(word == "clear", not any(note in bunch for bunch in clashing))
                self.assertIs(word == "sure", (note,) in clashing)
                self.assertTrue(word == "clear" or not is_right(book))

    def test_great_books(self):
        times = 10 ** 29
        for book in SOME[:30]:
            great = scaled(book, times)
            self.told(mends(book), mends(great))
            self.told(clashes(book), clashes(great))
            self.assertEqual(check_notes(great, notes_paper(great)), "notes")
        self.told((((1, "passed"),), ((2, "marks"),)), mends(GREAT[3]))
        self.told((((1, "passed"), (2, "marks")),), clashes(GREAT[3]))


class Believable(Asking):

    def test_against_all_histories(self):
        for book in SOME:
            mended = plainbooks.mends(book)
            for number in range(len(book[2])):
                some = set()
                for bunch in mended:
                    some |= plainbooks.possible(plainbooks.without(book, bunch), number)
                told = believable(book=book, number=number)
                self.told(plainbooks.sets_by_states(book, some), told)
                self.assertTrue(some)
                if is_right(book):
                    self.told(states_possible(book, number), told)
                strokes, missed, added = book[1]
                for residue, (level, boats) in some:
                    row = book[2][number]
                    clear = [word for word in ("level", "boats", "heard") if (number, word) in notes_of(book) and doubt_of(book, (number, word)) == "clear"]
                    self.assertTrue("level" not in clear or level == row[2])
                    self.assertTrue("boats" not in clear or boats == row[4])
                    self.assertTrue("heard" not in clear or strokes[residue] - missed <= row[1] <= strokes[residue] + added)

    def test_wrong_arguments(self):
        for thing in OTHERS + [-1, 3, (0,)]:
            self.refused(BadNumber, {"given": thing}, believable, BOOK, thing)
        for thing in OTHERS + [(), (0,), (0, "boats"), (0, "marks"), (1, "signs"), (3, "level"), (True, "level"), (0, "level", 0), [0, "level"], ((0, "level"),)]:
            self.refused(BadNote, {"given": thing}, doubt_of, BOOK, thing)
            self.refused(BadNote, {"given": thing}, corrections, BOOK, thing)
        self.refused(BadNote, {"given": (1, "marks")}, corrections, FIVE, (1, "marks"))
        self.refused(BadNote, {"given": (1, "passed")}, corrections, FIVE, (1, "passed"))
        self.refuses_wrong_books(notes_of, mends, clashes, fewest, notes_paper, lambda book: doubt_of(book, None),
                                 lambda book: believable(book, None), lambda book: corrections(book, None))


class Corrections(Asking):

    def test_against_all_that_could_be_noted(self):
        told = {"boats": 0, "heard": 0, "level": 0}
        for book in SOME:
            for note in notes_of(book):
                if note[1] not in told:
                    continue
                told[note[1]] += 1
                most = {"boats": book[0][3], "heard": 99, "level": book[0][0]}[note[1]]
                well = [many for many in range(most + 1) if plainbooks.many_ways(put(book, note, many))]
                worth = tuple(well) if note[1] == "boats" else as_pairs(well)
                self.told(worth, corrections(book=book, note=note))
                self.assertIs(bool(worth), is_right(left_out(book, (note,))))
                here = book[2][note[0]][plainbooks.PLACES[note[1]]]
                self.assertIs(here in well, is_right(book))
        self.assertTrue(min(told.values()) > 15, told)

    def test_what_is_told(self):
        book = ((9, 2, 3, 1), ((1, 5, 3), 0, 1), (entry(heard=1, level=0, boats=0), entry((1, 2), heard=9, level=3)))
        self.told((), corrections(book, (0, "level")))
        # In two HOURS to 3 from 0: what is struck then is 3.
        self.told(((3, 4),), corrections(book, (1, "heard")))
        self.told((), corrections(book, (1, "level")))
        book = (*book[:2], (entry(heard=1, level=0, boats=0), entry((1, 2), heard=3, level=9)))
        self.told(((5, 9),), corrections(book, (0, "level")))
        self.told(((0, 4),), corrections(book, (1, "level")))
        self.told((), corrections(book, (0, "boats")))
        book = (*book[:2], (entry(heard=1, level=0, boats=0), entry((1, 2), heard=3, level=0, boats=0)))
        self.told((0, 1), corrections(book, (1, "boats")))
        self.told(((1, 2), (5, 6)), corrections(book, (0, "heard")))
        book = (ONE, ((24,), 24, 24), (entry(heard=99),))
        self.told(((0, 48),), corrections(book, (0, "heard")))

    def test_great_levels(self):
        book = ((BIG, 1, BIG // 2, 0), CLOCK, (entry(level=BIG), entry((2, 2), level=7)))
        self.told(((0, BIG),), corrections(book, (1, "level")))
        self.told(((5, BIG),), corrections(book, (0, "level")))


class Papers(Asking):

    def test_papers_hold(self):
        for book in SOME:
            paper = notes_paper(book=book)
            self.assertEqual(check_notes(book, paper), "notes")
            self.assertEqual(judge_notes(book, paper), "notes")
            self.assertTrue(same(paper, notes_paper(book)))
            self.told(mends(book), tuple(bunch for bunch, _ in paper[1]))
            self.told(clashes(book), tuple(bunch for bunch, _ in paper[2]))
            for bunch, history in paper[1]:
                self.assertIs(agrees(left_out(book, bunch), history), True)

    def test_downward(self):
        book = (*DOWNWARD[:2], (DOWNWARD[2][0], entry((1, 2), heard=2), DOWNWARD[2][2]))
        self.assertEqual(check_notes(book, notes_paper(book)), "notes")
        chance = random.Random(1)
        some = list(notes_of(book))
        bunch = tuple(sorted(chance.sample(some, 2)))
        self.told(plainbooks.without(book, bunch), left_out(book, bunch))


if __name__ == "__main__":
    unittest.main()
