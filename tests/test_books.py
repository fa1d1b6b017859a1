import unittest

from lockkeeper.books import book_backwards, book_overturned, need_book, part_of, tolls_of, wants_of
from lockkeeper.errors import BadBook, BadNumber
from lockkeeper.locks import turned
from lockkeeper.tollpapers import need_tolls
from tests.asking import Asking
from tests.plain import OTHERS
from tests.somebooks import BIG, CLOCK, DOWNWARD, GREAT, ONE, SMALL, TWELVE, entry


class Books(Asking):

    def test_a_book_is_itself(self):
        for book in SMALL + GREAT:
            self.assertIs(need_book(book), book)
            self.assertIs(need_book(thing=book), book)

    def test_edges(self):
        for book in [
            ((0, BIG, BIG, 0), ((0,), 24, 24), (entry(heard=99, level=0, boats=0, signs=("a", "y", "z")),)),
            ((BIG, 1, 1, 2), ((24,) * 12, 0, 0), (entry(heard=0, level=BIG, boats=2),) + (entry((12, 12), 99, BIG, (BIG, BIG), 0, (2, 2, 2, 2)),) * 2),
            (ONE, CLOCK, (entry(),) + (entry((0, 0)),) * 5),
            (ONE, CLOCK, (entry(), entry((0, 12)), entry((12, 12)), entry((0, 0)), entry((0, 0)), entry((0, 0)))),
            (ONE, CLOCK, (entry(), entry((0, 1), level=2, marks=(0, 1)))),
        ]:
            self.assertIs(need_book(book), book)

    def test_what_is_no_book(self):
        self.refuses_wrong_books(
            need_book, tolls_of, book_overturned, book_backwards, lambda book: wants_of(book, None),
            lambda book: part_of(book, None, None))
        for thing in OTHERS:
            self.refused(BadBook, {"place": "form"}, need_book, thing)
            self.refused(BadBook, {"place": ("lock", "form")}, need_book, (thing, thing, thing))
            self.refused(BadBook, {"place": ("clock", "form")}, need_book, (ONE, thing, thing))
            self.refused(BadBook, {"place": "entries"}, need_book, (ONE, CLOCK, thing))
            self.refused(BadBook, {"place": (0, "form")}, need_book, (ONE, CLOCK, (thing,)))

    def test_each_part_of_an_entry(self):
        wrong = {
            1: ("heard", [-1, 100, (1,)]), 2: ("level", [-1, 3, (1,)]),
            3: ("marks", [(0,), (0, 1, 2), (-1, 0), (0, 3), (2, 1), (0, True), (None, None)]), 4: ("boats", [-1, 2, (1,)]),
            5: ("passed", [(0, 0, 0), (0, 0, 0, 0, 0), (0, 0, 0, 3), (-1, 0, 0, 0), (0, 0, 0, True), (None,) * 4]),
            6: ("signs", [("a", "a"), ("b", "a"), ("a", "b", "c", "d"), ("A",), ("",), ("ab",), ("`",), ("{",), (1,), (None,), (b"a",), "a"]),
            0: ("gap", [(0,), (0, 1, 2), (-1, 0), (0, 13), (2, 1), (False, 1), (0, True)]),
        }
        for at, (part, things) in wrong.items():
            others = [thing for thing in OTHERS if at == 0 or thing is not None]
            for thing in things + others + ([None] if at == 6 else []):
                row = list(entry((0, 1)))
                # What stands behind it is wrong, too; what is told first is told.
                row[at + 1:] = [Ellipsis] * (6 - at)
                row[at] = thing
                self.refused(BadBook, {"place": (2, part)}, need_book, (ONE, CLOCK, (entry(), entry((0, 1)), tuple(row), None)))
                if at != 0:
                    row[0] = None
                    if at not in (3, 5):
                        self.refused(BadBook, {"place": (0, part)}, need_book, (ONE, CLOCK, (tuple(row),)))
        for thing in OTHERS + [(0, 0), (0, 1)]:
            if thing is not None:
                self.refused(BadBook, {"place": (0, "gap")}, need_book, (ONE, CLOCK, ((thing,) + (Ellipsis,) * 6,)))
                self.refused(BadBook, {"place": (0, "marks")}, need_book, (ONE, CLOCK, (entry(marks=thing, passed=thing),)))
                self.refused(BadBook, {"place": (0, "passed")}, need_book, (ONE, CLOCK, (entry(passed=thing, signs=thing),)))

    def test_seventh_entries_and_hours(self):
        many = (entry(),) + (entry((12, 12)),) * 5
        self.refused(BadBook, {"place": (6, "more")}, need_book, (ONE, CLOCK, many + (None,)))
        self.refused(BadBook, {"place": (5, "form")}, need_book, (ONE, CLOCK, many[:5] + (None, None)))
        self.refused(BadBook, {"place": ("hours", 3)}, need_book, (ONE, CLOCK, many))
        self.refused(BadBook, {"place": ("hours", 5)}, need_book, (ONE, CLOCK, (entry(),) + (entry((0, 5)),) * 5))
        self.refused(BadBook, {"place": ("hours", 4)}, need_book, (ONE, CLOCK, (entry(),) + (entry((0, 12)),) * 2 + (entry((0, 0)), entry((0, 1)))))


class Parts(Asking):

    def test_tolls(self):
        self.told((DOWNWARD[1], ((None, 1), ((1, 2), 2), ((2, 4), None))), tolls_of(book=DOWNWARD))
        for book in SMALL + GREAT:
            tolls = tolls_of(book)
            self.assertIs(need_tolls(tolls), tolls)
            self.told(tuple((row[0], row[1]) for row in book[2]), tolls[1])

    def test_wants(self):
        book = (ONE, CLOCK, (entry(level=1), entry((0, 1), marks=(0, 1)), entry((0, 1), passed=(0, 0, 0, 1)), entry((0, 1), 5)))
        for number, wants in enumerate([(None, None), ((0, 1), None), (None, (0, 0, 0, 1)), (None, None)]):
            self.told(wants, wants_of(book=book, number=number))

    def test_part(self):
        book = (ONE, CLOCK, (entry(None, 1, 2, None, 0, None, ("a",)), entry((0, 1), 2, 1, (0, 1), 1, (0, 0, 1, 0), ("b",)), entry((1, 1), 7)))
        self.told(book, part_of(book=book, number=0, last=2))
        self.told(book[:2] + (book[2][:1],), part_of(book, 0, 0))
        first = entry(None, 2, 1, None, 1, None, ("b",))
        self.told(book[:2] + ((first,),), part_of(book, 1, 1))
        self.told(book[:2] + ((first, entry((1, 1), 7)),), part_of(book, 1, 2))
        for book in SMALL:
            for number in range(len(book[2])):
                for last in range(number, len(book[2])):
                    told = part_of(book, number, last)
                    self.assertIs(need_book(told), told)

    def test_wrong_numbers(self):
        for thing in OTHERS + [-1, 3, (0,), BIG]:
            self.refused(BadNumber, {"given": thing}, wants_of, DOWNWARD, thing)
            self.refused(BadNumber, {"given": thing}, part_of, DOWNWARD, thing, Ellipsis)
            self.refused(BadNumber, {"given": thing}, part_of, DOWNWARD, 0, thing)
        self.refused(BadNumber, {"given": 1}, part_of, DOWNWARD, 2, 1)


class Turned(Asking):

    def test_overturned(self):
        book = ((7, 2, 3, 2), ((1, 2), 3, 4), (
            entry(None, 5, 1, None, 2, None, ("a", "b")), entry((2, 3), None, 7, (1, 7), None, (1, 2, 0, 0)), entry((0, 1))))
        self.told(((7, 3, 2, 2), ((1, 2), 3, 4), (
            entry(None, 5, 6, None, 2, None, ("a", "b")), entry((2, 3), None, 0, (0, 6), None, (0, 0, 1, 2)), entry((0, 1)))),
            book_overturned(book=book))

    def test_backwards(self):
        book = ((7, 2, 3, 2), ((9, 1, 2), 3, 4), (
            entry(None, 5, 1, None, 2, None, ("a", "b")), entry((2, 3), None, 7, (1, 7), None, (1, 2, 0, 0), ("c",)), entry((0, 1), 6)))
        self.told(((7, 3, 2, 2), ((9, 2, 1), 3, 4), (
            entry(None, 6), entry((0, 1), None, 7, signs=("c",)), entry((2, 3), 5, 1, (1, 7), 2, (2, 1, 0, 0), ("a", "b")))),
            book_backwards(book=book))
        self.told(((1,) + TWELVE[:0:-1], 0, 0), book_backwards((ONE, (TWELVE, 0, 0), (entry(),)))[1])
        for strokes in [(5,), (5, 6)]:
            self.told((turned(ONE), (strokes, 0, 0), (entry(heard=3),)), book_backwards((ONE, (strokes, 0, 0), (entry(heard=3),))))

    def test_twice_it_is_the_first_one(self):
        for book in SMALL + GREAT:
            for call in (book_overturned, book_backwards):
                need_book(call(book))
                self.told(book, call(call(book)))
            self.told(book_overturned(book_backwards(book)), book_backwards(book_overturned(book)))


if __name__ == "__main__":
    unittest.main()
