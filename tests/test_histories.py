import random
import unittest

from lockkeeper.bookpapers import agrees, check_book, need_history, states_in
from lockkeeper.books import book_backwards, book_overturned
from lockkeeper.errors import BadHistory, BadNumber, BadSets, BadState, Nothing, Wrong
from lockkeeper.histories import (
    book_paper, history_backwards, history_of, history_overturned, history_through, history_with)
from lockkeeper.stretches import least_stand
from lockkeeper.tables import is_right, states_possible
from tests import plainbooks
from tests.asking import Asking
from tests.plain import OTHERS, same
from tests.somebooks import BIG, CLOCK, DOWNWARD, FEW, GREAT, ONE, SMALL, TWELVE, entry

BOOK = (ONE, CLOCK, (entry(heard=1), entry((0, 2), level=2), entry((1, 1))))
WRONG = (ONE, CLOCK, (entry(heard=1), entry((1, 1), heard=1), entry((1, 1))))
NONE = (((), ()),) * 2
WHOLE = ((((0, 2),),) * 2,) * 2


def lengths(history):
    return tuple(len(course) for course in history[2])


class Turned(Asking):

    def test_overturned(self):
        history = (1, (0, 1), ((("lower", 1, 0), ("water", 1)), (), (("water", 2), ("upper", 0, 1))))
        book = ((2, 1, 2, 1), CLOCK, (entry(),) + (entry((0, 2)),) * 3)
        self.told((1, (2, 1), ((("upper", 1, 0), ("water", 1)), (), (("water", 0), ("lower", 0, 1)))),
                  history_overturned(book=book, history=history))

    def test_backwards(self):
        history = (1, (0, 1), ((("lower", 1, 0), ("water", 1)), (), (("water", 2), ("upper", 0, 1))))
        book = ((2, 1, 2, 1), ((1, 2, 3), 0, 0), (entry(),) + (entry((0, 2)),) * 3)
        # The RESIDUE at the last ENTRY is 2, of 3.
        self.told((1, (2, 1), ((("upper", 1, 0), ("water", 1)), (), (("water", 0), ("lower", 0, 1)))),
                  history_backwards(book=book, history=history))
        self.told((0, (1, 0), ()), history_backwards((ONE, CLOCK, (entry(),)), (0, (1, 0), ())))
        self.told((1, (1, 0), ()), history_backwards((ONE, CLOCK, (entry(),)), (1, (1, 0), ())))
        self.told((7, (1, 0), ()), history_backwards((ONE, (TWELVE, 0, 0), (entry(),)), (5, (1, 0), ())))

    def test_facts(self):
        chance = random.Random(2)
        for book in FEW:
            over, back = book_overturned(book), book_backwards(book)
            # So few HOURS that going course by course has an end.
            told = plainbooks.histories(book) if sum(row[0][1] for row in book[2][1:]) < 5 else []
            for history, been in chance.sample(told, min(8, len(told))):
                other = history_overturned(book, history)
                self.assertIs(plainbooks.agrees(over, other), True)
                self.told(history, history_overturned(over, other))
                other = history_backwards(book, history)
                self.assertIs(plainbooks.agrees(back, other), True)
                self.told(history, history_backwards(back, other))
                size = len(book[1][0])
                self.told(tuple((-residue % size, stand) for residue, stand in been[::-1]), states_in(back, other))

    def test_that_does_not_agree(self):
        history = (0, (1, 0), ((("water", 1),) * 400, (("water", 2), ("upper", 0, 1))))
        for turn, call in ((book_overturned, history_overturned), (book_backwards, history_backwards)):
            other = call(BOOK, history)
            self.assertIs(need_history(turn(BOOK), other), other)
            self.told(history, call(turn(BOOK), other))
            self.assertIs(agrees(turn(BOOK), other), False)

    def test_wrong_histories(self):
        for call in (history_overturned, history_backwards):
            for thing in OTHERS:
                self.refused(BadHistory, {"part": "form"}, call, BOOK, thing)
            self.refused(BadHistory, {"part": "residue"}, call, BOOK, (2, None, None))
            self.refused(BadHistory, {"part": 2}, call, BOOK, (0, (0, 0), ((), (("water", 2),))))


class Found(Asking):

    def test_history_of(self):
        for book in SMALL + GREAT:
            if is_right(book):
                history = history_of(book=book)
                self.assertIs(agrees(book, history), True)
                self.assertTrue(same(history, history_of(book)))
            else:
                self.assertRaises(Wrong, history_of, book)
        for book in SMALL:
            number = plainbooks.first_wrong(book)
            if number is None:
                self.assertIs(plainbooks.agrees(book, history_of(book)), True)
            else:
                self.refused(Wrong, {"number": number}, history_of, book)

    def test_history_with(self):
        chance = random.Random(3)
        for book in SMALL:
            wrong = plainbooks.first_wrong(book)
            everything = plainbooks.all_states(book)
            for number in range(len(book[2])):
                possible = plainbooks.possible(book, number)
                for state in chance.sample(everything, min(5, len(everything))):
                    if wrong is not None:
                        self.refused(Wrong, {"number": wrong}, history_with, book, number, state)
                    elif state not in possible:
                        self.refused(Nothing, {"given": state}, history_with, book, number, state)
                    else:
                        history = history_with(book=book, number=number, state=state)
                        self.assertIs(plainbooks.agrees(book, history), True)
                        self.told(state, states_in(book, history)[number])
                        self.assertTrue(same(history, history_with(book, number, state)))

    def test_great_books(self):
        for book in GREAT:
            if not is_right(book):
                self.refused(Wrong, {"number": 2}, history_with, book, 0, (0, (0, 0)))
                continue
            for number in range(len(book[2])):
                for residue, lot in enumerate(states_possible(book, number)):
                    if any(lot):
                        for stand in [least_stand(book[0], lot)] + [(part[-1][1], boats) for boats, part in enumerate(lot) if part]:
                            history = history_with(book, number, (residue, stand))
                            self.assertIs(agrees(book, history), True)
                            self.told((residue, stand), states_in(book, history)[number])

    def test_wrong_arguments(self):
        for thing in OTHERS + [-1, 3, (0,)]:
            self.refused(BadNumber, {"given": thing}, history_with, BOOK, thing, None)
            self.refused(BadNumber, {"given": thing}, history_with, WRONG, thing, None)
        for thing in OTHERS + [(2, (0, 0)), (0, (3, 0)), (0, (0, 2))]:
            self.refused(BadState, {"given": thing}, history_with, BOOK, 0, thing)
            self.refused(BadState, {"given": thing}, history_with, WRONG, 0, thing)
        self.refused(Wrong, {"number": 1}, history_with, WRONG, 0, (0, (0, 0)))
        self.refused(Wrong, {"number": 1}, history_of, WRONG)
        self.refused(Nothing, {"given": (1, (0, 0))}, history_with, BOOK, 0, (1, (0, 0)))
        self.refuses_wrong_books(history_of, book_paper, lambda book: history_with(book, None, None), lambda book: history_through(book, None),
                                 lambda book: history_overturned(book, None), lambda book: history_backwards(book, None))


class Through(Asking):

    def test_against_all_histories(self):
        chance = random.Random(5)
        found = {}
        for book in SMALL:
            for part in (1, 0.7, 0.4):
                rows = [{state for state in plainbooks.all_states(book) if chance.random() < part} for _ in book[2]]
                tables = tuple(plainbooks.sets_by_states(book, some) for some in rows)
                for hours in (None, tuple(chance.randint(*row[0]) for row in book[2][1:])):
                    well = [1 for been, many in plainbooks.ways(book) if hours in (None, many)
                            and all(state in some for state, some in zip(been, rows))]
                    history = history_through(book, tables, hours)
                    found[(hours is None, bool(well))] = found.get((hours is None, bool(well)), 0) + 1
                    self.assertIs(history is None, not well)
                    if well:
                        self.assertIs(plainbooks.agrees(book, history), True)
                        self.assertTrue(all(state in some for state, some in zip(states_in(book, history), rows)))
                        self.assertIn(hours, (None, lengths(history)))
                        self.assertTrue(same(history, history_through(book=book, tables=tables, hours=hours)))
        self.assertTrue(min(found.values()) > 30 and len(found) == 4, found)

    def test_hours(self):
        tables = (WHOLE,) * 3
        self.assertEqual(lengths(history_through(BOOK, tables, (2, 1))), (2, 1))
        self.assertEqual(lengths(history_through(book=BOOK, tables=tables, hours=(0, 1))), (0, 1))
        # Integers from 0 to 12, but not within the GAPS: there is none.
        for hours in [(3, 1), (2, 0), (2, 2), (12, 12)]:
            self.assertIs(history_through(BOOK, tables, hours), None)
        self.assertIs(history_through(BOOK, (NONE, WHOLE, WHOLE)), None)
        self.assertIs(history_through(BOOK, (WHOLE, WHOLE, NONE), None), None)
        self.assertIs(history_through(WRONG, tables), None)
        self.assertIs(history_through(WRONG, tables, (1, 1)), None)
        self.told((1, (1, 0), ()), history_through((ONE, CLOCK, (entry(),)), ((NONE[0], (((1, 1),), ())),), ()))

    def test_wrong_arguments(self):
        for thing in OTHERS + [(), (WHOLE,) * 2, (WHOLE,) * 4, [WHOLE] * 3, (WHOLE, WHOLE, None), (WHOLE, WHOLE, WHOLE[:1]), (None, WHOLE, WHOLE)]:
            self.refused(BadSets, {"given": thing}, history_through, BOOK, thing, "hours")
            self.refused(BadSets, {"given": thing}, history_through, WRONG, thing)
        for thing in OTHERS + [(), (1,), (1, 1, 1), (1, -1), (1, 13), (1, True), (1, None), [1, 1]]:
            if thing is not None:
                self.refused(BadNumber, {"given": thing}, history_through, BOOK, (WHOLE,) * 3, thing)
                self.refused(BadNumber, {"given": thing}, history_through, WRONG, (NONE,) * 3, hours=thing)


class Papers(Asking):

    def test_papers_hold(self):
        for book in SMALL + GREAT:
            paper = book_paper(book=book)
            self.assertEqual(check_book(book, paper), "right" if is_right(book) else "wrong")
            self.assertTrue(same(paper, book_paper(book)))
        self.assertEqual(book_paper(WRONG)[0], "wrong")
        self.assertEqual(book_paper(DOWNWARD)[0], "right")

    def test_never_both(self):
        for book in FEW:
            # The tightest TABLES are those that the paper of a wrong BOOK has.
            tables = tuple(plainbooks.sets_by_states(book, plainbooks.ahead(book, number)) for number in range(len(book[2])))
            for many in range(1, len(tables) + 1):
                if plainbooks.first_wrong(book) == many - 1:
                    self.assertEqual(check_book(book, ("wrong", tables[:many])), "wrong")
                elif not plainbooks.ahead(book, many - 1):
                    self.assertGreater(many - 1, plainbooks.first_wrong(book))
                else:
                    self.assertRaises(ValueError, check_book, book, ("wrong", tables[:many]))

    def test_six_entries(self):
        rows = (entry(level=0, boats=0),) + (entry((0, 4), passed=(0, 0, 1, 0)), entry((0, 5), passed=(0, 1, 0, 0))) * 2 + (entry((0, 6), level=0),)
        book = ((BIG, BIG // 3, BIG // 2, 2), (TWELVE, 0, 0), rows)
        history = history_of(book)
        self.assertIs(agrees(book, history), True)
        self.assertEqual(check_book(book, ("right", history)), "right")


if __name__ == "__main__":
    unittest.main()
