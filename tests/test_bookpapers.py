import random
import unittest

from lockkeeper.bookpapers import (
    agrees, check_book, has_state, led_by, led_on, need_history, need_sets, need_state, states_in, suiting)
from lockkeeper.errors import BadBook, BadHistory, BadNumber, BadPaper, BadSets, BadState
from lockkeeper.histories import book_paper
from lockkeeper.images import image
from lockkeeper.stretches import both_lots, either_lot, empty_lot, whole_lot
from tests import plainbooks
from tests.asking import Asking
from tests.plain import OTHERS, variants
from tests.plainjudges import judge_book
from tests.somebooks import BIG, CLOCK, DOWNWARD, FEW, GREAT, ONE, SMALL, TWELVE, entry

BOOK = (ONE, CLOCK, (entry(heard=1), entry((0, 2), level=2), entry((1, 1))))
EMPTY = (((), ()),) * 2
WHOLE = ((((0, 2),),) * 2,) * 2
FOUND = (0, (1, 0), ((("water", 2),), (("upper", 0, 1),)))


def some_states(book, chance, part=0.4):
    return {state for state in plainbooks.all_states(book) if chance.random() < part}


class Sets(Asking):

    def test_sets_are_themselves(self):
        for sets in [EMPTY, WHOLE, ((((0, 0), (2, 2)), ()), (((1, 1),), ((0, 1),)))]:
            self.assertIs(need_sets(BOOK, sets), sets)
            self.assertIs(need_sets(book=BOOK, thing=sets), sets)

    def test_what_are_no_sets(self):
        lot = ((), ())
        wrong = OTHERS + [(), (lot,), (lot,) * 3, [lot, lot], ((), ()), (lot, ((),)), (lot, ((), ()) + ((),)), (lot, (((0, 3),), ())),
                          (lot, (((0, 0), (1, 1)), ())), (lot, (((1, 0),), ())), (lot, (((0, True),), ())), (lot, lot, None)]
        for thing in wrong:
            self.refused(BadSets, {"given": thing}, need_sets, BOOK, thing)
            self.refused(BadSets, {"given": thing}, has_state, BOOK, thing, Ellipsis)
            self.refused(BadSets, {"given": thing}, led_on, BOOK, 1, thing)
            self.refused(BadSets, {"given": thing}, led_by, BOOK, 1, thing, Ellipsis)

    def test_states(self):
        for residue in (0, 1):
            for level in (0, 1, 2):
                for boats in (0, 1):
                    state = (residue, (level, boats))
                    self.assertIs(need_state(book=BOOK, thing=state), state)
                    self.assertIs(has_state(book=BOOK, sets=WHOLE, state=state), True)
                    self.assertIs(has_state(BOOK, EMPTY, state), False)
                    sets = ((((0, 0), (2, 2)), ()), (((1, 1),), ((0, 1),)))
                    told = [(0, (0, 0)), (0, (2, 0)), (1, (1, 0)), (1, (0, 1)), (1, (1, 1))]
                    self.assertIs(has_state(BOOK, sets, state), state in told)

    def test_what_is_no_state(self):
        for thing in OTHERS + [(0,), (0, (0, 0), 0), (2, (0, 0)), (-1, (0, 0)), (True, (0, 0)), (0, (3, 0)), (0, (0, 2)), (0, (0,)),
                               (0, [0, 0]), [0, (0, 0)], (0, 0, 0)]:
            self.refused(BadState, {"given": thing}, need_state, BOOK, thing)
            self.refused(BadState, {"given": thing}, has_state, BOOK, EMPTY, thing)

    def test_suiting(self):
        self.told(((((0, 2),),) * 2, ((), ())), suiting(book=BOOK, number=0))
        self.told(((((2, 2),),) * 2,) * 2, suiting(BOOK, 1))
        self.told(WHOLE, suiting(BOOK, 2))
        for book in SMALL:
            for number in range(len(book[2])):
                self.told(plainbooks.sets_by_states(book, plainbooks.suiting(book, number)), suiting(book, number))

    def test_suiting_by_a_clock(self):
        for heard in (0, 1, 3, 4, 5, 8, 9, 10, 24, 48, 99, None):
            for missed, added in ((0, 0), (2, 1), (24, 24), (0, 24), (24, 0)):
                book = (ONE, ((0, 4, 9, 24), missed, added), (entry(heard=heard),))
                self.told(plainbooks.sets_by_states(book, plainbooks.suiting(book, 0)), suiting(book, 0))
        self.told((empty_lot(ONE),) * 12, suiting((ONE, (TWELVE, 24, 24), (entry(heard=99),)), 0))


class Leading(Asking):

    def test_against_all_courses(self):
        chance = random.Random(4)
        for book in SMALL:
            for number in range(1, len(book[2])):
                for some in (some_states(book, chance), set(), plainbooks.suiting(book, number - 1)):
                    sets = plainbooks.sets_by_states(book, some)
                    self.told(plainbooks.sets_by_states(book, plainbooks.led_on(book, number, some)), led_on(book, number, sets))
                    least, most = book[2][number][0]
                    for hours in range(least, most + 1):
                        led = plainbooks.sets_by_states(book, plainbooks.led_on(book, number, some, hours))
                        self.told(led, led_by(book, number, sets, hours))

    def test_what_is_told(self):
        self.told((((), ()), (((2, 2),), ())), led_by(book=BOOK, number=1, sets=((((0, 1),), ()), ((), ())), hours=1))
        self.told(((((2, 2),), ()), ((), ())), led_on(book=BOOK, number=1, sets=((((0, 0),), ()), ((), ()))))
        # In two HOURS the gate can be opened once, too.
        self.told(((((2, 2),), ((2, 2),)), (((2, 2),), ())), led_on(BOOK, 1, ((((1, 1),), ()), ((), ()))))

    def test_great_locks_by_images(self):
        for book in GREAT:
            lock, (strokes, _, _), entries = book
            for number in range(1, len(entries)):
                start = ((0, 0), (lock[0] // 3, lock[0] // 2))
                sets = ((((start[0],) + (start[1],)),) + ((),) * lock[3],) + (whole_lot(lock),) * (len(strokes) > 1)
                sets = sets + (empty_lot(lock),) * (len(strokes) - len(sets))
                wants = (entries[number][3], entries[number][5])
                least, most = entries[number][0]
                told = [empty_lot(lock) for _ in strokes]
                for hours in range(least, most + 1):
                    one = [empty_lot(lock) for _ in strokes]
                    for residue, lot in enumerate(sets):
                        there = (residue + hours) % len(strokes)
                        one[there] = both_lots(lock, image(lock, lot, wants, hours), suiting(book, number)[there])
                    self.told(tuple(one), led_by(book, number, sets, hours))
                    told = [either_lot(lock, lot, other) for lot, other in zip(told, one)]
                self.told(tuple(told), led_on(book, number, sets))

    def test_wrong_numbers_and_hours(self):
        for thing in OTHERS + [-1, 0, 3, (1,)]:
            self.refused(BadNumber, {"given": thing}, led_on, BOOK, thing, Ellipsis)
            self.refused(BadNumber, {"given": thing}, led_by, BOOK, thing, Ellipsis, Ellipsis)
        for thing in OTHERS + [-1, 3, 12, (1,)]:
            self.refused(BadNumber, {"given": thing}, led_by, BOOK, 1, EMPTY, thing)
        for thing in (0, 2):
            self.refused(BadNumber, {"given": thing}, led_by, BOOK, 2, EMPTY, thing)
        for thing in OTHERS + [-1, 3, (1,)]:
            self.refused(BadNumber, {"given": thing}, suiting, BOOK, thing)


class Histories(Asking):

    def test_a_history_is_itself(self):
        for history in [FOUND, (1, (0, 1), ((), ())), (0, (0, 0), ((("water", 0),) * 400, (("lower", 0, 1),) + (("water", 0),) * 399))]:
            self.assertIs(need_history(BOOK, history), history)
            self.assertIs(need_history(book=BOOK, thing=history), history)

    def test_what_is_no_history(self):
        for call in (need_history, states_in):
            for thing in OTHERS + [(), (0, (0, 0)), (0, (0, 0), (), ()), [0, (0, 0), ((), ())]]:
                self.refused(BadHistory, {"part": "form"}, call, BOOK, thing)
            for thing in OTHERS + [-1, 2, (0,)]:
                self.refused(BadHistory, {"part": "residue"}, call, BOOK, (thing, None, None))
            for thing in OTHERS + [(3, 0), (0, 2), (0,), (0, True)]:
                self.refused(BadHistory, {"part": "stand"}, call, BOOK, (0, thing, None))
            for thing in OTHERS + [(), ((),), ((), (), ()), [(), ()]]:
                self.refused(BadHistory, {"part": "courses"}, call, BOOK, (0, (0, 0), thing))
            for thing in OTHERS + [(("water", 2),), (("lower", 1, 0),), (("water", 0),) * 401, (None,), [("water", 0)]]:
                self.refused(BadHistory, {"part": 1}, call, BOOK, (0, (0, 0), (thing, None)))
                self.refused(BadHistory, {"part": 2}, call, BOOK, (0, (0, 0), ((), thing)))
            # Each COURSE from the STAND behind the one ahead.
            self.refused(BadHistory, {"part": 2}, call, BOOK, (0, (0, 0), ((("water", 1),), (("water", 0), ("upper", 0, 0)))))

    def test_states_in(self):
        self.told(((0, (1, 0)), (1, (2, 0)), (0, (2, 1))), states_in(book=BOOK, history=FOUND))
        self.told(((1, (0, 0)), (1, (0, 0)), (0, (0, 0))), states_in(BOOK, (1, (0, 0), ((), (("water", 0),) * 399))))

    def test_agrees(self):
        self.assertIs(agrees(book=BOOK, value=FOUND), True)
        for other in [(1,) + FOUND[1:], (0, (0, 0), FOUND[2]), (0, (1, 0), ((("water", 2),), ())), (0, (1, 0), ((("water", 2),), (("water", 2),) * 2)),
                      (0, (1, 0), ((), (("water", 2),))), (0, (2, 0), ((), ())), (0, (1, 0), ((("water", 2),) + (("water", 2),) * 2, (("water", 2),)))]:
            self.assertIs(agrees(BOOK, other), False)
        self.assertIs(agrees(BOOK, (0, (2, 0), ((), (("water", 2),)))), True)
        for thing in OTHERS:
            self.assertIs(agrees(BOOK, thing), False)

    def test_agrees_by_each_thing_noted(self):
        history = (1, (0, 1), ((("lower", 1, 1), ("water", 1)), ()))
        rows = (entry(heard=2, level=0, boats=1), entry((1, 3), 2, 1, (0, 1), 1, (0, 0, 1, 1)), entry((0, 0), 2))
        self.assertIs(agrees((ONE, CLOCK, rows), history), True)
        for at, row in [(0, entry(heard=1)), (0, entry(level=1)), (0, entry(boats=0)), (1, entry((1, 1))), (1, entry((3, 3))),
                        (1, entry((1, 3), 1)), (1, entry((1, 3), level=0)), (1, entry((1, 3), marks=(0, 0))), (1, entry((1, 3), marks=(1, 1))),
                        (1, entry((1, 3), marks=(0, 2))), (1, entry((1, 3), boats=0)), (1, entry((1, 3), passed=(0, 0, 0, 0))),
                        (1, entry((1, 3), passed=(0, 0, 1, 2))), (1, entry((1, 3), passed=(1, 1, 0, 0))), (2, entry((1, 1))), (2, entry((0, 0), 1))]:
            self.assertIs(agrees((ONE, CLOCK, rows[:at] + (row,) + rows[at + 1:]), history), False)

    def test_against_all_histories(self):
        for book in [(ONE, CLOCK, (entry(), entry((0, 2), 1, marks=(0, 1)))), ((1, 1, 1, 1), CLOCK, (entry(boats=0), entry((1, 2), passed=(0, 0, 1, 0)), entry((0, 1), 2)))]:
            told = plainbooks.histories(book)
            self.assertGreater(len(told), 10)
            for history, been in told:
                self.assertIs(agrees(book, history), True)
                self.told(been, states_in(book, history))
            for history, _ in told[::7]:
                for tried in variants(history):
                    self.assertIs(agrees(book, tried), plainbooks.agrees(book, tried))


class Papers(Asking):

    def test_with_one_thing_otherwise(self):
        chance = random.Random(9)
        words = {}
        for book in FEW:
            paper = book_paper(book)
            self.assertEqual(check_book(book=book, paper=paper), judge_book(book, paper))
            tried = list(variants(paper))
            for word, many in self.judged_alike(judge_book, check_book, (book,), chance.sample(tried, min(120, len(tried)))).items():
                words[word] = words.get(word, 0) + many
        self.assertTrue(min(words.values()) > 20, words)
        self.assertEqual(set(words), {"right", "wrong", ("bad", "form"), ("bad", "right"), ("bad", "wrong")})

    def test_tables_that_have_more(self):
        book = (ONE, ((1, 2), 0, 0), (entry(level=0), entry((1, 1), level=1), entry((0, 1), level=3 - 3, heard=3)))
        tables = (WHOLE, (((), ((0, 2),)), (((1, 1),), ())), EMPTY)
        self.refused(BadPaper, {"part": "wrong"}, check_book, book, ("wrong", tables))
        tables = (WHOLE, ((((1, 1),), ((0, 2),)), (((1, 1),), ((1, 1),))), EMPTY)
        self.assertEqual(check_book(book, ("wrong", tables)), "wrong")
        self.assertEqual(check_book((ONE, CLOCK, (entry(heard=3),)), ("wrong", (EMPTY,))), "wrong")
        self.refused(BadPaper, {"part": "wrong"}, check_book, (ONE, CLOCK, (entry(heard=2),)), ("wrong", (EMPTY,)))
        self.refused(BadPaper, {"part": "wrong"}, check_book, (ONE, CLOCK, (entry(heard=3),)), ("wrong", (WHOLE,)))
        self.refused(BadPaper, {"part": "wrong"}, check_book, (ONE, CLOCK, (entry(heard=3),)), ("wrong", (EMPTY, EMPTY)))
        self.refused(BadPaper, {"part": "wrong"}, check_book, (ONE, CLOCK, (entry(heard=3),)), ("wrong", ()))

    def test_random_tables(self):
        chance = random.Random(14)
        for book in FEW:
            for _ in range(3):
                rows = [plainbooks.sets_by_states(book, some_states(book, chance, 0.8)) for _ in book[2]]
                many = chance.randrange(len(rows))
                self.judged_alike(judge_book, check_book, (book,), [("wrong", (*rows[:many], plainbooks.sets_by_states(book, set())))])

    def test_form(self):
        for thing in OTHERS + [(), ("right",), ("wrong",), ("right", FOUND, 0), ("wrong", (), ()), ("clash", ()), ("kept", FOUND), [("right", FOUND)]]:
            self.refused(BadPaper, {"part": "form"}, check_book, BOOK, thing)
        for thing in OTHERS:
            self.refused(BadPaper, {"part": "form"}, check_book, BOOK, (thing, FOUND))
            self.refused(BadPaper, {"part": "right"}, check_book, BOOK, ("right", thing))
            self.refused(BadPaper, {"part": "wrong"}, check_book, BOOK, ("wrong", thing))
            self.refused(BadPaper, {"part": "wrong"}, check_book, BOOK, ("wrong", (thing,)))

    def test_great_books(self):
        words = [check_book(book, book_paper(book)) for book in GREAT]
        self.assertEqual(words, ["right", "right", "wrong", "wrong", "right", "right"])


class WrongArguments(Asking):

    def test_books(self):
        calls = [lambda book, call=call: call(book, Ellipsis) for call in
                 (need_sets, need_state, suiting, need_history, agrees, states_in, check_book)]
        calls += [lambda book, call=call: call(book, Ellipsis, Ellipsis) for call in (has_state, led_on)]
        self.refuses_wrong_books(*calls, lambda book: led_by(book, None, None, None))
        self.refused(BadBook, {"place": (0, "level")}, led_by, ((BIG, 1, 1, 0), CLOCK, (entry(level=BIG + 1),)), 0, 0, 0)


if __name__ == "__main__":
    unittest.main()
