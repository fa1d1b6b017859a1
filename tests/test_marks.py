import random
import unittest

from lockkeeper.errors import BadLook, BadNumber, TooMany
from lockkeeper.looks import answers_of
from lockkeeper.histories import history_of
from lockkeeper.marks import marked_at
from lockkeeper.tables import is_right, states_ahead
from tests import plainbooks
from tests.asking import Asking
from tests.plain import OTHERS
from tests.somebooks import BIG, CLOCK, DOWNWARD, GREAT, ONE, SMALL, TWELVE, entry, scaled
from tests.somelooks import menu_by_chance

BOOK = (ONE, CLOCK, (entry(heard=1, boats=0), entry((0, 1)), entry((1, 1), level=2)))
LEVEL = ("level", 0, 1)
BETWEENS = (("between", 0, 1, 3), ("between", 0, 2, 3))
TEN = (ONE, (tuple(range(10)), 0, 0), (entry(), entry((0, 9)), entry((0, 9)), entry((0, 0))))
FAR = (("between", 0, 3, BIG), ("between", 1, 3, BIG), ("boats", 0, 1))


class Marks(Asking):

    def test_against_all_histories(self):
        chance = random.Random(29)
        some = 0
        for book in SMALL:
            for _ in range(3):
                menu, claim = menu_by_chance(chance, book)
                for number in range(len(book[2])):
                    rows = plainbooks.marked(book, menu + (claim,), number)
                    self.told(rows, marked_at(book=book, menu=menu, claim=claim, number=number))
                    some += len(rows) > 3
        self.assertGreater(some, 200)

    def test_what_is_told(self):
        none, two = (), ((2, 2),)
        menu, claim = (("between", 0, 2, 2),), ("level", 1, 1)
        self.told((((0, (2, 2), (0, -1)), (((0, 2),), none)),), marked_at(BOOK, menu, claim, 0))
        self.told((((0, (2, 0), (0, -1)), (((0, 0),), none)), ((0, (2, 1), (0, -1)), (((1, 2),), none)),
                   ((1, (2, 0), (1, -1)), (((0, 0),), ((0, 0),))), ((1, (2, 1), (1, -1)), (((1, 2),), two))), marked_at(BOOK, menu, claim, 1))
        # From (2, 0) by the gate, or from (1, 0) and (2, 0) and (2, 1) by the water.
        self.told((((0, (1, 1), (-1, -1)), (two, two)), ((1, (0, 1), (-1, -1)), (two, two))), marked_at(BOOK, menu, claim, 2))

    def test_since_is_cut_at_x(self):
        book = (ONE, ((1,), 0, 0), (entry(level=0, boats=0), entry((0, 5), level=0, boats=0), entry((0, 5), level=0, boats=0)))
        lot = (((0, 0),), ())
        for least, sinces in [(0, [0]), (1, [0, 1]), (3, [0, 1, 2, 3]), (5, [0, 1, 2, 3, 4, 5]), (BIG, [0, 1, 2, 3, 4, 5])]:
            claim = ("between", 0, 2, least)
            self.told((((0, (2,), (0,)), lot),), marked_at(book, (), claim, 0))
            self.told(tuple(((0, (2,), (since,)), lot) for since in sinces), marked_at(book, (), claim, 1))
            worths = [0] * (least > 0) + [1] * (least <= 10)
            self.told(tuple(((0, (worth,), (-1,)), lot) for worth in worths), marked_at(book, (), claim, 2))

    def test_looks_at_one_state(self):
        book = (ONE, CLOCK, (entry(),))
        told = marked_at(book, (("level", 0, 1), ("boats", 0, 1), ("hour", 0, (1,))), ("level", 0, 2), 0)
        self.told(((0, (0, 0, 0, 0), (-1,) * 4), (((0, 0),), ())), told[0])
        self.told(((1, (1, 1, 1, 1), (-1,) * 4), ((), ((2, 2),))), told[-1])
        self.assertEqual(len(told), 2 * 2 * 3)
        for claim, worth in [(("level", 0, 0), 1), (("level", 0, BIG), 0), (("boats", 0, 2), 0), (("hour", 0, ()), 0), (("hour", 0, (0, 1)), 1)]:
            self.told(tuple(((residue, (worth,), (-1,)), (((0, 2),),) * 2) for residue in (0, 1)), marked_at(book, (), claim, 0))

    def test_books_that_are_not_right(self):
        book = (ONE, CLOCK, (entry(level=0), entry((0, 1), level=2), entry((0, 1))))
        self.assertEqual(len(marked_at(book, (), LEVEL, 0)), 2)
        self.told((), marked_at(book, (), LEVEL, 1))
        self.told((), marked_at(book, (LEVEL,) * 3, LEVEL, 2))
        self.told((), marked_at((ONE, CLOCK, (entry(heard=9),)), (), LEVEL, 0))

    def test_without_keys_they_are_the_states_ahead(self):
        for book in SMALL + GREAT:
            for number in range(len(book[2])):
                sets = states_ahead(book, number)
                rows = tuple(((residue, (1,), (-1,)), lot) for residue, lot in enumerate(sets) if any(lot))
                self.told(rows, marked_at(book, (), ("boats", 0, 0), number))

    def test_the_last_ones_have_all_answers(self):
        chance = random.Random(30)
        for book in SMALL:
            if is_right(book):
                menu, claim = menu_by_chance(chance, book)
                last = len(book[2]) - 1
                told = {key[1] for key, _ in marked_at(book, menu, claim, last)}
                self.assertEqual({tuple(int(plainbooks.look_by(been, hours, look)) for look in menu + (claim,))
                                  for been, hours in plainbooks.ways(book)}, told)
                had = answers_of(book, history_of(book), menu)
                self.assertIn(tuple(int(worth) for worth in had), {told[:-1] for told in told})

    def test_too_many(self):
        self.assertEqual(len(marked_at(TEN, FAR, ("level", 3, 0), 2)), 2000)
        self.assertEqual(len(marked_at(TEN, FAR, ("level", 3, 0), 3)), 20)
        self.assertEqual(len(marked_at(TEN, FAR, ("level", 2, 1), 1)), 200)
        for number in (2, 3):
            # What is told by one LOOK more at the ENTRY 2 makes them 4,000, also if that is not asked for.
            self.refused(TooMany, {"most": 2000}, marked_at, TEN, FAR, ("level", 2, 1), number)
        eleven = (ONE, (tuple(range(11)), 0, 0), TEN[2])
        self.refused(TooMany, {"most": 2000}, marked_at, eleven, FAR, ("level", 3, 0), 2)
        self.assertEqual(len(marked_at(eleven, FAR, ("level", 3, 0), 1)), 220)
        for thing in (-1, 4, True, None):
            self.refused(BadNumber, {"given": thing}, marked_at, eleven, FAR, ("level", 3, 0), thing)

    def test_one_key_too_many(self):
        # 12 RESIDUES, 169 pairs of HOURS; three of these pairs come together as 22, at most, is counted of 24.
        book = ((0, 1, 1, 0), (TWELVE, 0, 0), (entry(), entry((0, 12)), entry((0, 12)), entry((0, 0))))
        menu = (("between", 0, 3, 22), ("between", 1, 3, BIG))
        self.assertEqual(len(marked_at(book, menu, ("hour", 0, ()), 2)), 12 * 166)
        # Where pairs came together the first RESIDUE is not known, and told apart as 0 and 1, or 0 and 2, or not.
        self.assertEqual(len(marked_at(book, menu, ("hour", 0, (0, 1)), 2)), 1998)
        self.refused(TooMany, {"most": 2000}, marked_at, book, menu, ("hour", 0, (0, 2)), 2)

    def test_great_books(self):
        chance = random.Random(32)
        times = 10 ** 29
        for book in SMALL[:80]:
            menu, claim = menu_by_chance(chance, book)
            great = scaled(book, times)
            looks = [(word, number, least * times if least < BIG else BIG) if word == "level" else (word, number, least, *rest)
                     for word, number, least, *rest in menu + (claim,)]
            last = len(book[2]) - 1
            told = {key for key, _ in marked_at(great, tuple(looks[:-1]), looks[-1], last)}
            self.assertLessEqual({key for key, _ in marked_at(book, menu, claim, last)}, told)
        half = BIG // 2
        rows = marked_at(GREAT[1], (("between", 0, 1, 6),), ("level", 1, half + 1), 1)
        self.assertEqual(sorted(key for key, _ in rows), [(0, (0, 0), (-1, -1)), (0, (0, 1), (-1, -1)), (0, (1, 0), (-1, -1)), (0, (1, 1), (-1, -1))])
        lots = dict(rows)
        self.told(((half + 1, half + 5),), lots[(0, (0, 1), (-1, -1))][0])
        self.told(((half + 1, half + 12),), lots[(0, (1, 1), (-1, -1))][0])
        self.told(((0, half),), lots[(0, (1, 0), (-1, -1))][0])


class WrongArguments(Asking):

    def test_in_turn(self):
        self.refuses_wrong_books(lambda book: marked_at(book, None, None, None))
        for thing in OTHERS + [(LEVEL,) * 4, [LEVEL]]:
            self.refused(BadLook, {"given": thing}, marked_at, BOOK, thing, None, None)
        for thing in OTHERS + [(), ("level", 3, 0), ("between", 1, 1, 0), ("hour", 0, (2,))]:
            self.refused(BadLook, {"given": thing}, marked_at, BOOK, (LEVEL, thing, None), None, None)
            self.refused(BadLook, {"given": thing}, marked_at, BOOK, (LEVEL,), thing, None)
        for thing in OTHERS + [-1, 3, (0,)]:
            self.refused(BadNumber, {"given": thing}, marked_at, BOOK, (LEVEL,), LEVEL, thing)

    def test_between(self):
        three = BETWEENS + (("between", 1, 2, 0),)
        self.refused(BadLook, {"given": three}, marked_at, BOOK, three, None, None)
        self.refused(BadLook, {"given": three[2]}, marked_at, BOOK, BETWEENS, three[2], None)
        self.refused(BadLook, {"given": three[2]}, marked_at, BOOK, (three[0], LEVEL, three[1]), three[2], None)
        self.assertEqual(len(marked_at(BOOK, BETWEENS[:1], three[2], 0)), 1)
        marked_at(BOOK, BETWEENS + (LEVEL,), LEVEL, 2)
        marked_at(DOWNWARD, (), BETWEENS[0], 2)
        self.assertEqual(len(marked_at((ONE, (TWELVE, 0, 0), (entry(),)), (), LEVEL, 0)), 24)


if __name__ == "__main__":
    unittest.main()
