import random
import unittest

from lockkeeper.bookpapers import need_sets
from lockkeeper.books import book_backwards, book_overturned, part_of, tolls_of
from lockkeeper.errors import BadNumber, BadSets
from lockkeeper.images import origin
from lockkeeper.stretches import both_lots, either_lot, empty_lot, has_stand, is_lot_within, whole_lot
from lockkeeper.tables import first_wrong, is_right, led_back, states_ahead, states_behind, states_possible
from lockkeeper.tolls import are_tolls_right, tolls_may
from tests import plainbooks
from tests.asking import Asking
from tests.plain import OTHERS
from tests.somebooks import BIG, CLOCK, DOWNWARD, GREAT, ONE, SMALL, TWELVE, entry, scaled


def as_sets(book, some):
    return plainbooks.sets_by_states(book, some)


def both(book, sets, others):
    return tuple(both_lots(book[0], lot, other) for lot, other in zip(sets, others))


def are_within(book, sets, others):
    return all(is_lot_within(book[0], lot, other) for lot, other in zip(sets, others))


def less_noted(book, chance):
    """The BOOK with some things left out, and with GAPS that reach further."""
    rows = []
    for number, row in enumerate(book[2]):
        row = [thing if 0 < at < 6 and chance.random() < 0.6 else None for at, thing in enumerate(row)]
        if number:
            least, most = book[2][number][0]
            row[0] = (max(0, least - chance.randrange(2)), min(12, most + chance.randrange(2)))
        rows.append((*row[:6], book[2][number][6]))
    return book[0], book[1], tuple(rows)


class Tables(Asking):

    def test_against_all_histories(self):
        for book in SMALL:
            for number in range(len(book[2])):
                self.told(as_sets(book, plainbooks.ahead(book, number)), states_ahead(book, number))
                self.told(as_sets(book, plainbooks.behind(book, number)), states_behind(book, number))
                self.told(as_sets(book, plainbooks.possible(book, number)), states_possible(book, number))

    def test_first_wrong_against_all_histories(self):
        rights = 0
        for book in SMALL:
            number = plainbooks.first_wrong(book)
            rights += number is None
            self.told(number, first_wrong(book))
            self.assertIs(is_right(book), number is None)
        self.assertTrue(40 < rights < len(SMALL) - 40, rights)

    def test_course_by_course(self):
        for book in [DOWNWARD[:2] + (DOWNWARD[2][:2],), (ONE, CLOCK, (entry(boats=1), entry((0, 1), 2), entry((1, 2), level=0))),
                     ((1, 1, 1, 2), ((1, 1, 2), 0, 0), (entry(boats=0), entry((1, 2), boats=2), entry((0, 1), passed=(0, 1, 0, 0))))]:
            states = [been for _, been in plainbooks.histories(book)]
            self.assertEqual(set(states), {been for been, _ in plainbooks.ways(book)})
            for number in range(len(book[2])):
                self.told(as_sets(book, {been[number] for been in states}), states_possible(book, number))

    def test_what_is_told(self):
        book = ((10, 2, 3, 1), ((1, 2, 3, 4), 0, 0), (entry(heard=1, level=4, boats=0), entry((1, 2)), entry((1, 1), heard=4, level=8)))
        none, whole = ((), ()), (((0, 10),),) * 2
        # In one HOUR to from 1 to 6, in two to 0 and 8, with the gate opened nowhere: to 0 the water needs two.
        self.told((none, (((1, 6),), ()), (((0, 8),), ()), none), states_ahead(book=book, number=1))
        self.told((none, none, (((6, 10),), ((6, 10),)), none), states_behind(book=book, number=1))
        self.told((none, none, (((6, 8),), ()), none), states_possible(book=book, number=1))
        self.told((none, none, none, (((8, 8),), ())), states_possible(book, 2))
        self.told(((((4, 4),), ()), none, none, none), states_possible(book, 0))
        self.told((whole,) * 4, states_behind(book, 2))
        self.told(None, first_wrong(book=book))
        self.assertIs(is_right(book=book), True)

    def test_wrong_books(self):
        beyond = (ONE, CLOCK, (entry(), entry((0, 12), level=2, marks=(0, 1)), entry((0, 12), 99)))
        self.told(1, first_wrong(beyond))
        self.told(0, first_wrong((ONE, CLOCK, (entry(heard=3), entry((0, 0), 99)))))
        self.told(0, first_wrong((ONE, CLOCK, (entry(heard=99),))))
        self.told(2, first_wrong((ONE, CLOCK, (entry(heard=1), entry((1, 1), 2), entry((1, 1), 2)))))
        none = (empty_lot(ONE),) * 2
        for number in range(3):
            self.told(none, states_possible(beyond, number))
        self.told(none, states_ahead(beyond, 1))
        self.told(none, states_ahead(beyond, 2))
        self.told((whole_lot(ONE),) * 2, states_behind(beyond, 2))
        # No HEARD fits, but what is noted at an ENTRY is not asked of what comes behind it.
        self.told(none, states_behind(beyond, 1))
        self.told((whole_lot(ONE),) * 2, states_behind((ONE, CLOCK, (entry(heard=99),)), 0))

    def test_edges(self):
        for heard, strokes, missed, added, well in [(0, 24, 24, 0, True), (0, 24, 23, 24, False), (48, 24, 0, 24, True), (49, 24, 24, 24, False),
                                                    (99, 24, 24, 24, False), (0, 0, 0, 0, True), (None, 0, 0, 0, True)]:
            book = ((0, 1, 1, 0), ((strokes,), missed, added), (entry(heard=heard),))
            self.assertIs(is_right(book), well)
        far = ((BIG, 1, BIG, 0), (TWELVE, 0, 0))
        rows = (entry(level=0, heard=5), entry((12, 12), level=12, heard=5), entry((12, 12), level=24, heard=5))
        self.assertIs(is_right(far + (rows,)), True)
        self.assertIs(is_right(far + (rows[:2] + (entry((12, 12), level=25),),)), False)
        self.assertIs(is_right(far + (rows[:2] + (entry((12, 12), heard=6),),)), False)
        noon = (entry(level=1),) + (entry((0, 0), level=1),) * 5
        self.assertIs(is_right((ONE, CLOCK, noon)), True)
        self.assertIs(is_right((ONE, CLOCK, noon[:5] + (entry((0, 0), level=0),))), False)
        # TOP 0: both gates at once; ROOM 0: nothing passes.
        through = entry((2, 2), passed=(2, 0, 0, 2))
        self.assertIs(is_right(((0, 1, 1, 2), CLOCK, (entry(boats=0), through))), True)
        self.assertIs(is_right(((0, 1, 1, 0), CLOCK, (entry(), through))), False)
        self.assertIs(is_right(((0, 1, 1, 0), CLOCK, (entry(), entry((2, 2), passed=(0, 0, 0, 0))))), True)


class Back(Asking):

    def test_against_all_courses(self):
        chance = random.Random(15)
        for book in SMALL:
            for number in range(1, len(book[2])):
                some = {state for state in plainbooks.all_states(book) if chance.random() < 0.4}
                for part in (some, set(), set(plainbooks.all_states(book))):
                    self.told(as_sets(book, plainbooks.led_back(book, number, part)), led_back(book, number, as_sets(book, part)))

    def test_great_locks_by_origins(self):
        for book in GREAT:
            lock, (strokes, missed, added), entries = book
            for number in range(1, len(entries)):
                _, heard, level, marks, boats, passed, _ = entries[number]
                levels = (0, lock[0]) if level is None else (level, level)
                lot = tuple((levels,) if boats in (None, many) else () for many in range(lock[3] + 1))
                told = [empty_lot(lock) for _ in strokes]
                for residue, struck in enumerate(strokes):
                    if heard is None or struck - missed <= heard <= struck + added:
                        for hours in range(entries[number][0][0], entries[number][0][1] + 1):
                            there = (residue - hours) % len(strokes)
                            told[there] = either_lot(lock, told[there], origin(lock, lot, (marks, passed), hours))
                self.told(tuple(told), led_back(book=book, number=number, sets=(whole_lot(lock),) * len(strokes)))

    def test_wrong_arguments(self):
        book = (ONE, CLOCK, (entry(), entry((0, 1))))
        for thing in OTHERS + [-1, 0, 2, (1,)]:
            self.refused(BadNumber, {"given": thing}, led_back, book, thing, None)
        for thing in OTHERS + [(), ((), ())]:
            self.refused(BadSets, {"given": thing}, led_back, book, 1, thing)
        for thing in OTHERS + [-1, 2, (1,)]:
            for call in (states_ahead, states_behind, states_possible):
                self.refused(BadNumber, {"given": thing}, call, book, thing)
        self.refuses_wrong_books(first_wrong, is_right, lambda book: led_back(book, None, None), lambda book: states_ahead(book, None),
                                 lambda book: states_behind(book, None), lambda book: states_possible(book, None))


class Facts(Asking):

    def test_possible_is_ahead_and_behind(self):
        for book in SMALL + GREAT:
            for number in range(len(book[2])):
                possible = states_possible(book, number)
                self.assertIs(need_sets(book, possible), possible)
                self.told(both(book, states_ahead(book, number), states_behind(book, number)), possible)
                self.assertIs(possible != (empty_lot(book[0]),) * len(book[1][0]), is_right(book))

    def test_upside_down_and_backwards(self):
        for book in SMALL + GREAT:
            top, size, last = book[0][0], len(book[1][0]), len(book[2]) - 1
            over, back = book_overturned(book), book_backwards(book)
            self.assertIs(is_right(over), is_right(book))
            self.assertIs(is_right(back), is_right(book))
            self.told(first_wrong(book), first_wrong(over))
            for number in range(last + 1):
                told = states_possible(book, number)
                turned = tuple(tuple(tuple((top - high, top - low) for low, high in part[::-1]) for part in lot) for lot in told)
                self.told(turned, states_possible(over, number))
                self.told(tuple(told[-residue % size] for residue in range(size)), states_possible(back, last - number))
                suited = states_ahead(part_of(book, number, number), 0)
                told = both(book, states_behind(book, number), suited)
                self.told(tuple(told[-residue % size] for residue in range(size)), states_ahead(back, last - number))

    def test_parts(self):
        for book in SMALL + GREAT:
            last = len(book[2]) - 1
            for number in range(last + 1):
                self.told(states_ahead(book, number), states_possible(part_of(book, 0, number), number))
                suited = states_ahead(part_of(book, number, number), 0)
                self.told(both(book, states_behind(book, number), suited), states_possible(part_of(book, number, last), 0))

    def test_less_noted(self):
        chance = random.Random(31)
        for book in SMALL:
            other = less_noted(book, chance)
            self.assertTrue(is_right(other) or not is_right(book))
            for number in range(len(book[2])):
                self.assertTrue(are_within(book, states_possible(book, number), states_possible(other, number)))

    def test_tolls(self):
        for book in SMALL + GREAT:
            tolls = tolls_of(book)
            self.assertTrue(are_tolls_right(tolls) or not is_right(book))
            # By a LOCK with the TOP 0, and nothing noted but GAPS, HEARD and SIGNS, it is the same.
            bare = ((0, 5, 7, book[0][3]), book[1], tuple((*row[:2], None, None, None, None, row[6]) for row in book[2]))
            self.assertIs(is_right(bare), are_tolls_right(tolls))
            for number in range(len(book[2])):
                may = tolls_may(tolls, number)
                had = [residue for residue, lot in enumerate(states_possible(book, number)) if any(lot)]
                self.assertLessEqual(set(had), set(may))
                self.told(may, tuple(residue for residue, lot in enumerate(states_possible(bare, number)) if any(lot)))

    def test_levels_and_rates_times_a_great_number(self):
        times = 10 ** 29
        for book in SMALL:
            great = scaled(book, times)
            self.told(first_wrong(book), first_wrong(great))
            for number in range(len(book[2])):
                small, told = states_possible(book, number), states_possible(great, number)
                for residue, (level, boats) in plainbooks.all_states(book):
                    self.assertIs(has_stand(great[0], told[residue], (level * times, boats)), has_stand(book[0], small[residue], (level, boats)))

    def test_great_books(self):
        self.assertEqual([first_wrong(book) for book in GREAT], [None, None, 2, 2, None, None])
        book = GREAT[1]
        middle = states_possible(book, 1)
        half = BIG // 2
        # Within 12 HOURS it is 12 higher at last, so it is no lower at first.
        self.told(((), ()), middle[1])
        self.told(((half, half + 12),), middle[0][0])


if __name__ == "__main__":
    unittest.main()
