import random
import unittest

from lockkeeper.bookpapers import agrees, states_in
from lockkeeper.books import need_book
from lockkeeper.errors import BadClock, BadDeed, BadHour, BadLock, BadNumber, BadStand, Nothing
from lockkeeper.keepers import Keeper, under
from lockkeeper.looks import answers_of, look_of
from lockkeeper.duties import at_once, standing_of
from lockkeeper.maybes import may_boats, may_hear, may_levels, may_residues, totals
from lockkeeper.notes import left_out, mends, notes_of
from lockkeeper.rounds import is_right_with, most_rounds, rest, span
from lockkeeper.tables import is_right, states_possible
from lockkeeper.texts import book_text, read_book
from lockkeeper.treepapers import comes_to
from lockkeeper.trees import depth, look_paper
from tests import plainbooks
from tests.asking import Asking
from tests.plain import OTHERS, hours_at, stands
from tests.plainkeepers import WORDS, Plain
from tests.somebooks import BIG, CLOCK, LOCKS, ONE, TWELVE, entry
from tests.somelooks import menu_by_chance
from tests.someduties import duty_by_chance
from tests.test_across import wider


def pair_by_chance(chance):
    """A KEEPER and a plain one."""
    lock = chance.choice(LOCKS)
    clock = (tuple(chance.randrange(5) for _ in range(chance.randint(1, 4))), chance.randrange(3), chance.randrange(2))
    stand, residue = chance.choice(stands(lock)), chance.randrange(len(clock[0]))
    return Keeper(lock, clock, stand, residue), Plain(lock, clock, stand, residue)


def deed_by_chance(chance, plain, wrong=0.15):
    """A writing that most often can be done."""
    _, residue, course, _, writings = plain.told()
    strokes, missed, added = plain.clock
    words = [word for word in WORDS if chance.random() < 0.5 and (writings or word not in ("marks", "passed"))]
    if max(plain.since()[2]) > 2 and "passed" in words:
        words.remove("passed")
    gap = (max(0, len(course) - chance.randrange(3)), min(12, len(course) + chance.choice((0, 0, 1, 9)))) if writings else None
    heard = chance.randint(max(0, strokes[residue] - missed), strokes[residue] + added) if "heard" in words else None
    signs = tuple(sorted({chance.choice("abc") for _ in range(chance.randrange(3))}))
    deed = [tuple(words), gap, heard, signs]
    if chance.random() < wrong:
        at = chance.randrange(4)
        deed[at] = chance.choice([("boats", "marks"), ("level", "boats"), ("heard",), ("passed",), (0, 1), (3, 2), (12, 12), (0, 12), 3, 99, None, ("b", "a"), ("z",), "boats"])
    return tuple(deed)


def go_on(chance, keeper, plain, many):
    """Some DEEDS of both."""
    for _ in range(many):
        if chance.random() < 0.65:
            hour = chance.choice(hours_at(keeper.lock, keeper.stand))
            keeper.do(hour)
            plain.deeds.append(hour)
        else:
            deed = deed_by_chance(chance, plain, 0)
            if plain.wrong_part(*deed) is None:
                keeper.write(*deed)
                plain.deeds.append(deed)


class Keepers(Asking):

    def alike(self, keeper, plain):
        stand, residue, _, _, _ = plain.told()
        self.told((plain.lock, plain.clock, stand, residue), (keeper.lock, keeper.clock, keeper.stand, keeper.residue))
        self.told(len(plain.deeds), len(keeper))
        self.told(plain.since(), keeper.since())
        self.told(plain.entries(), keeper.entries())
        if plain.entries():
            self.told(plain.book(), keeper.book())
            self.told(plain.history(), keeper.history())
            self.told(plain.states(), keeper.states())
        else:
            for call in (keeper.book, keeper.history, keeper.states):
                self.refused(Nothing, {"given": 0}, call)

    def test_against_a_plain_list_of_deeds(self):
        chance = random.Random(100)
        parts = {}
        for _ in range(120):
            keeper, plain = pair_by_chance(chance)
            for _ in range(40):
                kind = chance.random()
                if kind < 0.55:
                    hour = chance.choice(hours_at(keeper.lock, keeper.stand) + [("water", 1), ("upper", 1, 1), ("lower", 0, 1)])
                    if plain.can_do(hour):
                        self.assertIs(keeper.do(hour), None)
                        plain.deeds.append(hour)
                    else:
                        self.refused(BadHour, {"given": hour}, keeper.do, hour)
                elif kind < 0.85:
                    deed = deed_by_chance(chance, plain)
                    part = plain.wrong_part(*deed)
                    parts[part] = parts.get(part, 0) + 1
                    if part is None:
                        row = keeper.write(*deed)
                        plain.deeds.append(deed)
                        self.told(plain.entries()[-1], row)
                    else:
                        self.refused(BadDeed, {"part": part}, keeper.write, *deed)
                elif plain.deeds:
                    many = chance.randint(1, min(5, len(plain.deeds)))
                    self.assertIs(keeper.undo(many), None)
                    del plain.deeds[-many:]
                self.alike(keeper, plain)
        self.assertEqual(set(parts), {None, "things", "gap", "heard", "signs", "entries", "hours"})

    def test_what_a_keeper_writes_is_right(self):
        chance = random.Random(101)
        some = 0
        for _ in range(80):
            keeper, plain = pair_by_chance(chance)
            go_on(chance, keeper, plain, 30)
            if not keeper.entries():
                continue
            some += 1
            book, history = keeper.book(), keeper.history()
            self.assertIs(need_book(book), book)
            self.told(book, read_book(book_text(book)))
            self.assertIs(agrees(book, history), True)
            self.told(keeper.states(), states_in(book, history))
            self.assertIs(is_right(book), True)
            for number, (residue, stand) in enumerate(keeper.states()):
                self.assertIn((residue, stand), plainbooks.states_in_sets(states_possible(book, number)))
                self.assertIn(residue, may_residues(book, number))
                self.assertIn(stand[1], may_boats(book, number))
                self.assertTrue(any(low <= stand[0] <= high for low, high in may_levels(book, number)))
                hours = sum(map(len, history[2][:number]))
                self.assertIn(hours, totals(book, 0, number))
            self.told_beside(chance, keeper, book, tuple(map(len, history[2])))
            # With more left out of it, too.
            notes = notes_of(book)
            less = wider(left_out(book, tuple(note for note in notes if chance.random() < 0.5)), chance)
            self.assertIs(agrees(less, history), True)
            self.told_beside(chance, keeper, less, tuple(map(len, history[2])))
            if len(notes) <= 5:
                self.told(((),), mends(book))
        self.assertGreater(some, 60)

    def told_beside(self, chance, keeper, book, hours):
        """BOUNDS, DUTIES and what may be heard, beside the KEEPER's own HOURS."""
        last = len(book[2]) - 1
        if last:
            one = chance.randrange(last)
            other = chance.randrange(one + 1, last + 1)
            many = sum(hours[one:other])
            self.assertIs(at_once(book, ((one, other, many, many),)), True)
            self.assertIs(at_once(book, ((one, other, many, None), (0, last, 0, 24))), True)
            self.assertIn(many, totals(book, one, other))
        duty = duty_by_chance(chance)
        self.assertNotEqual(standing_of(book, duty), "broken" if plainbooks.keeps_duty(book, hours, duty) else "kept")
        with keeper.trial() as one:
            for _ in range(chance.randrange(4)):
                one.do(("water", one.stand[0]))
            many = one.since()[0]
            if many <= 12:
                strokes, missed, _ = keeper.clock
                heard = max(0, strokes[one.residue] - missed)
                self.assertTrue(any(low <= heard <= high for low, high in may_hear(book, (many, many))))

    def test_trees_asked_of_a_keeper(self):
        chance = random.Random(102)
        asked = 0
        for _ in range(60):
            keeper, plain = pair_by_chance(chance)
            go_on(chance, keeper, plain, 25)
            if keeper.entries():
                book, history = keeper.book(), keeper.history()
                menu, claim = menu_by_chance(chance, book)
                if depth(book, menu, claim) is not None:
                    _, tree, tables = look_paper(book, menu, claim)
                    answers = answers_of(book, history, menu)
                    self.assertIs(look_of(book, history, claim), comes_to(book, menu, tree, answers))
                    self.assertIn(tuple(map(int, answers)), {key[1][:-1] for key, _ in tables[-1]})
                    asked += 1
        self.assertGreater(asked, 20)

    def test_rounds_gone_again_and_again(self):
        keeper = Keeper((2, 1, 2, 1), ((1, 2, 3), 0, 0))
        keeper.write(("heard", "level"), heard=1)
        again = (entry((0, 4), boats=1, level=2), entry((2, 5), level=0, passed=(0, 1, 0, 0)))
        book = keeper.book()
        total = 0
        for many in range(1, 8):
            hours = [("lower", 0, 1), ("water", 1), ("water", 2)] + [("upper", 1, 0), ("water", 2), ("water", 0)][:3]
            for hour in hours:
                keeper.do(hour)
            total += len(hours)
            self.assertIn((keeper.residue, keeper.stand[1]), rest(book, again, many))
            low, high = span(book, again, many)
            self.assertTrue(low <= total <= high)
            self.assertIs(is_right_with(book, again, many), True)
        self.assertIs(most_rounds(book, again), None)


class Writings(Asking):

    def keeper(self):
        keeper = Keeper((4, 2, 2, 2), ((3, 1), 1, 0), (4, 1), 1)
        keeper.write((), None, None, ())
        return keeper

    def test_entries(self):
        keeper = Keeper(lock=(4, 2, 2, 2), clock=((3, 1), 1, 0), stand=(4, 1), residue=1)
        self.told((None, 1, 4, None, 1, None, ("a",)), keeper.write(things=("boats", "heard", "level"), gap=None, heard=1, signs=("a",)))
        for hour in [("upper", 1, 2), ("water", 2), ("water", 0), ("lower", 1, 0)]:
            keeper.do(hour=hour)
        self.told(((3, 5), None, None, (0, 4), None, (2, 1, 0, 1), ()), keeper.write(("marks", "passed"), (3, 5)))
        self.told(((0, 0), None, 0, (0, 0), 1, (0, 0, 0, 0), ()), keeper.write(("boats", "level", "marks", "passed"), (0, 0)))
        self.told((0, (0, 0), (0, 0, 0, 0)), keeper.since())
        self.told((1, (4, 1), ((("upper", 1, 2), ("water", 2), ("water", 0), ("lower", 1, 0)), ())), keeper.history())
        self.told(((1, (4, 1)), (1, (0, 1)), (1, (0, 1))), keeper.states())

    def test_since_the_beginning(self):
        keeper = Keeper(ONE, CLOCK)
        self.told((0, (0, 0), (0, 0, 0, 0)), keeper.since())
        for hour in [("lower", 0, 1), ("water", 1), ("water", 2), ("upper", 1, 0), ("water", 1)]:
            keeper.do(hour)
        self.told((5, (0, 2), (0, 1, 1, 0)), keeper.since())
        keeper.write(("level",))
        self.told((0, (1, 1), (0, 0, 0, 0)), keeper.since())
        self.told((1, (1, 0), ()), keeper.history())

    def test_each_word_that_cannot_be_done(self):
        first = Keeper((4, 2, 2, 2), ((3, 1), 1, 0), (4, 1), 1)
        for word in ("marks", "passed"):
            self.refused(BadDeed, {"part": "things"}, first.write, (word,), "gap", "heard", "signs")
        for heard in (None, 2, -1, 3, True, "1", 100):
            self.refused(BadDeed, {"part": "heard"}, first.write, ("heard",), None, heard, "signs")
        for heard in (0, 1, 99, ""):
            self.refused(BadDeed, {"part": "heard"}, first.write, ("boats",), None, heard, "signs")
        for gap in OTHERS[1:] + [(0, 0), ()]:
            self.refused(BadDeed, {"part": "gap"}, first.write, ("level",), gap, "heard", "signs")
        self.assertEqual(len(first), 0)
        keeper = self.keeper()
        for _ in range(3):
            keeper.do(("upper", 1, 1))
        self.refused(BadDeed, {"part": "things"}, keeper.write, ("level", "passed"), (3, 3))
        keeper.write(("marks",), (3, 3))
        self.told(((2, 2), None, 4, (4, 4), 1, None, ()), [keeper.do(("upper", 1, 1)), keeper.do(("upper", 1, 1)), keeper.write(("boats", "level", "marks"), (2, 2))][-1])
        keeper.undo()
        self.told((2, 2, 0, 0), keeper.write(("passed",), (0, 12))[5])

    def test_wrong_parts(self):
        keeper = self.keeper()
        keeper.do(("water", 3))
        things = OTHERS + [("boats", "boats"), ("level", "boats"), ("gap",), ["boats"], ("Boats",), (b"boats",), (None,), ("",), ("boats", None)]
        for thing in things + [(other,) for other in OTHERS] + [("boats", other) for other in OTHERS]:
            self.refused(BadDeed, {"part": "things"}, keeper.write, thing, 1, 2, 3)
        for thing in OTHERS + [(0, 0), (2, 2), (2, 12), (0, 13), (-1, 1), (1, 0), (0,), (0, 1, 2), [0, 1], (True, 1), (0, True), (0, None)]:
            self.refused(BadDeed, {"part": "gap"}, keeper.write, (), thing, 2, 3)
        for thing in OTHERS[1:] + [0, 1]:
            self.refused(BadDeed, {"part": "heard"}, keeper.write, (), (1, 1), thing, 3)
        for thing in OTHERS + [1, 4, -1, 100]:
            self.refused(BadDeed, {"part": "heard"}, keeper.write, ("heard",), (1, 1), thing, 3)
        for thing in OTHERS + [("b", "a"), ("a", "a"), ("a", "b", "c", "d"), ("ab",), ("A",), ["a"], (1,)]:
            self.refused(BadDeed, {"part": "signs"}, keeper.write, (), (1, 1), None, thing)
        self.assertEqual((len(keeper), len(keeper.entries())), (2, 1))

    def test_six_entries_and_24_hours(self):
        keeper = self.keeper()
        for at in range(5):
            keeper.write((), (0, (12, 12, 0, 0, 0)[at]))
        self.refused(BadDeed, {"part": "signs"}, keeper.write, (), (0, 12), None, None)
        self.refused(BadDeed, {"part": "entries"}, keeper.write, (), (0, 12))
        self.refused(BadDeed, {"part": "entries"}, keeper.write, (), (0, 0))
        keeper.undo(many=1)
        self.refused(BadDeed, {"part": "hours"}, keeper.write, (), (0, 1))
        keeper.write((), (0, 0))
        self.assertEqual(len(keeper.entries()), 6)

    def test_great_ones(self):
        keeper = Keeper((BIG, BIG // 3, BIG, 2), (TWELVE, 24, 24), (BIG, 2), 11)
        keeper.write(("heard",), None, 36)
        keeper.do(("upper", 2, 1))
        keeper.do(("water", 1))
        self.told(((0, 2), 0, 1, (1, BIG), 1, (1, 2, 0, 0), ("x", "y", "z")), keeper.write(WORDS, (0, 2), 0, ("x", "y", "z")))
        self.assertIs(agrees(keeper.book(), keeper.history()), True)

    def test_many_hours(self):
        keeper = Keeper(ONE, (TWELVE, 0, 0))
        for _ in range(5000):
            keeper.do(("water", 1))
            keeper.do(("water", 0))
        self.told((10000, (0, 1), (0, 0, 0, 0)), keeper.since())
        self.told((4, (0, 0)), (keeper.residue, keeper.stand))
        keeper.undo(9999)
        self.told((1, (1, 0)), (len(keeper), keeper.stand))


class Trials(Asking):

    def test_a_trial(self):
        chance = random.Random(103)
        for _ in range(40):
            keeper, plain = pair_by_chance(chance)
            go_on(chance, keeper, plain, 8)
            held, told = keeper.copy(), plain.told()
            with keeper.trial() as one:
                self.assertIs(one, keeper)
                other = Plain(plain.lock, plain.clock, *plain.first, plain.deeds)
                if len(one) and chance.random() < 0.5:
                    one.undo(len(one))
                    other.deeds.clear()
                go_on(chance, one, other, 6)
                self.told(other.entries(), one.entries())
            self.assertEqual(keeper, held)
            self.told(told[:2], (keeper.stand, keeper.residue))
            self.told(plain.since(), keeper.since())

    def test_an_error_goes_on(self):
        keeper = Keeper(ONE, CLOCK)
        keeper.do(("water", 1))
        for error in (BadHour, KeyError):
            with self.assertRaises(error):
                with keeper.trial() as one:
                    one.do(("water", 2))
                    one.write(())
                    if error is KeyError:
                        raise KeyError
                    one.do(None)
            self.told((1, (1, 0), ()), (len(keeper), keeper.stand, keeper.entries()))

    def test_trials_in_one_another(self):
        keeper = Keeper(ONE, CLOCK)
        outer = keeper.trial()
        for _ in range(2):
            # One trial may be gone into again, behind its block.
            with outer as one:
                one.do(("water", 1))
                with one.trial() as two:
                    two.do(("water", 2))
                    with self.assertRaises(BadNumber):
                        with two.trial() as three:
                            three.undo(2)
                            three.undo(1)
                    self.told((2, (2, 0)), (len(keeper), keeper.stand))
                self.told((1, (1, 0)), (len(keeper), keeper.stand))
                keeper.do(("water", 0))
            self.told((0, (0, 0)), (len(keeper), keeper.stand))
        keeper.do(("water", 1))
        with outer:
            keeper.undo()
        self.told((1, (1, 0)), (len(keeper), keeper.stand))

    def test_an_early_end(self):
        keeper = Keeper(ONE, CLOCK)

        def told():
            for _ in range(2):
                with keeper.trial() as one:
                    one.do(("water", 1))
                    return one.stand
        self.told((1, 0), told())
        self.told((0, 0), keeper.stand)

    def test_under(self):
        keeper = Keeper(ONE, CLOCK)

        def deed(one):
            one.do(("water", 2 - 1))
            return one.stand
        self.told((1, 0), under(keeper.trial(), deed))
        self.told((1, 0), under(manager=keeper.trial(), deed=deed))
        self.told(0, len(keeper))
        with self.assertRaises(BadHour):
            under(keeper.trial(), lambda one: one.do(()))
        with self.assertRaises(ZeroDivisionError):
            under(keeper.trial(), lambda one: 1 // len(one))

        class Quiet:
            def __enter__(self):
                return 5

            def __exit__(self, kind, value, trace):
                return kind is KeyError
        self.told(6, under(Quiet(), lambda one: one + 1))
        self.assertIs(under(Quiet(), lambda one: {}[one]), None)
        with self.assertRaises(IndexError):
            under(Quiet(), lambda one: [][one])


class Copies(Asking):

    def test_a_copy_goes_on_by_itself(self):
        chance = random.Random(104)
        for _ in range(40):
            keeper, plain = pair_by_chance(chance)
            go_on(chance, keeper, plain, 8)
            other, further = keeper.copy(), Plain(plain.lock, plain.clock, *plain.first, plain.deeds)
            self.assertIsInstance(other, Keeper)
            self.assertIs(keeper == other, True)
            go_on(chance, other, further, 5)
            self.told(plain.since(), keeper.since())
            self.told(further.since(), other.since())
            self.told(plain.entries(), keeper.entries())
            self.told(further.entries(), other.entries())
            self.assertIs(keeper == other, plain.deeds == further.deeds)
            if len(keeper):
                keeper.undo()
                self.told(len(further.deeds), len(other))

    def test_which_are_the_same(self):
        first = Keeper(ONE, CLOCK, (1, 0), 1)
        self.assertIs(first == Keeper(ONE, CLOCK, (1, 0), 1), True)
        for other in (Keeper(ONE, CLOCK, (1, 0)), Keeper(ONE, CLOCK, (1, 1), 1), Keeper(ONE, ((1, 2), 1, 0), (1, 0), 1), Keeper((2, 1, 1, 2), CLOCK, (1, 0), 1)):
            self.assertIs(first == other, False)
            self.assertIs(first != other, True)
        for other in OTHERS[:15]:
            self.assertIs(first == other, False)
        # The same STAND by other DEEDS.
        one, other = Keeper(ONE, CLOCK), Keeper(ONE, CLOCK)
        for hour in (("water", 1), ("water", 0)):
            one.do(hour)
        other.do(("water", 0))
        other.do(("lower", 0, 0))
        self.told((one.stand, one.residue, one.entries()), (other.stand, other.residue, other.entries()))
        self.assertIs(one == other, False)
        one, other = Keeper(ONE, CLOCK), Keeper(ONE, CLOCK)
        one.write(("level",))
        other.write(())
        self.assertIs(one == other, False)
        other.undo()
        other.write(("level",))
        self.assertIs(one == other, True)
        # One that began elsewhere, and came there.
        one, other = Keeper(ONE, CLOCK, (1, 0), 1), Keeper(ONE, CLOCK)
        other.do(("water", 1))
        self.assertIs(one == other, False)

    def test_what_is_told_stays(self):
        keeper = Keeper(ONE, CLOCK)
        keeper.write(())
        entries, book, history = keeper.entries(), keeper.book(), keeper.history()
        keeper.do(("water", 1))
        keeper.write((), (1, 1))
        self.told((1, 1, ()), (len(entries), len(book[2]), history[2]))


class WrongArguments(Asking):

    def test_in_turn(self):
        for thing in OTHERS + [(1, 1, 1)]:
            self.refused(BadLock, {"part": "form"}, Keeper, thing, None, None, None)
            self.refused(BadClock, {"part": "form"}, Keeper, ONE, (0, 0), None, None)
            self.refused(BadStand, {"given": thing}, Keeper, ONE, CLOCK, thing, None)
            self.refused(BadHour, {"given": thing}, Keeper(ONE, CLOCK).do, thing)
        self.refused(BadLock, {"part": "room"}, Keeper, (1, 1, 1, 3), None)
        self.refused(BadClock, {"part": "added"}, Keeper, ONE, ((1,), 0, 25), None)
        for thing in OTHERS + [-1, 2]:
            self.refused(BadNumber, {"given": thing}, Keeper, ONE, CLOCK, (0, 0), thing)
        self.told(((0, 0), 0), (Keeper(ONE, CLOCK).stand, Keeper(ONE, CLOCK).residue))

    def test_undo(self):
        keeper = Keeper(ONE, CLOCK)
        for thing in OTHERS + [0, 1, -1]:
            self.refused(BadNumber, {"given": thing}, keeper.undo, thing)
        self.refused(BadNumber, {"given": 1}, keeper.undo)
        for hour in (("water", 1), ("water", 2), ("upper", 0, 1)):
            keeper.do(hour)
        for thing in (0, 4, -1, True, None):
            self.refused(BadNumber, {"given": thing}, keeper.undo, thing)
        keeper.undo()
        self.told((2, (2, 0), 0), (len(keeper), keeper.stand, keeper.residue))
        keeper.undo(2)
        self.told((0, (0, 0), 0), (len(keeper), keeper.stand, keeper.residue))


if __name__ == "__main__":
    unittest.main()
