import random
import unittest

from lockkeeper.bookpapers import suiting
from lockkeeper.dutypapers import (
    bound_by, bounds_of, check_bounds, check_duty, keeps_all, need_bounds, need_duty)
from lockkeeper.errors import BadBound, BadDuty, BadPaper, TooMany
from tests import plainbooks
from tests.asking import Asking
from tests.plain import OTHERS, variants
from tests.plainjudges import contrary, judge_bounds, judge_duty, lengths
from tests.somebooks import BIG, CLOCK, FEW, GREAT, ONE, SMALL, entry
from tests.someduties import SIGNED, bounds_by_chance, duty_by_chance, most_running, with_signs

BOOK = (ONE, CLOCK, (entry(heard=1, signs=("a",)), entry((0, 2), signs=("b",)), entry((1, 3), heard=1)))
WHOLE = ((((0, 2),),) * 2,) * 2
NONE = (((), ()),) * 2
EVEN = (WHOLE[0], NONE[0])
HELD = (0, (1, 0), ((("water", 1),), (("water", 1),) * 3))


def rolls_of(book, bounds):
    """The tightest ROLLS, by STATES one by one; None if the BOUNDS can be kept at once."""
    rolls, layer = [], {(0,) * len(bounds): plainbooks.suiting(book, 0)}
    for number in range(len(book[2])):
        if number:
            further = {}
            least, most = book[2][number][0]
            for counts in layer:
                for hours in range(least, most + 1):
                    behind = plainbooks.counts_on(bounds, number, counts, hours)
                    if behind is not None:
                        further.setdefault(behind, set()).update(plainbooks.led_on(book, number, layer[counts], hours))
            layer = further
        layer = {counts: some for counts, some in layer.items() if some}
        rolls.append(tuple((counts, plainbooks.sets_by_states(book, layer[counts])) for counts in sorted(layer)))
        if not layer:
            return tuple(rolls)
    return None


class Bounds(Asking):

    def test_bounds_are_themselves(self):
        for bounds in [(), ((0, 1, 0, None),), ((0, 2, 24, 24), (1, 2, 0, 0)), ((0, 2, 24, None),) * 10, ((1, 2, 3, 4), (0, 1, 0, 24))]:
            self.assertIs(need_bounds(BOOK, bounds), bounds)
            self.assertIs(need_bounds(book=BOOK, thing=bounds), bounds)
        self.assertEqual(need_bounds((ONE, CLOCK, (entry(),)), ()), ())

    def test_what_are_no_bounds(self):
        calls = [need_bounds] + [lambda book, bounds, call=call: call(book, bounds, None) for call in (keeps_all, check_bounds)]
        wrong = [(), (0, 1, 0), (0, 1, 0, 0, 0), (0, 0, 0, None), (1, 0, 0, None), (0, 3, 0, None), (-1, 1, 0, None), (2, 3, 0, None),
                 (0, 1, -1, None), (0, 1, 25, None), (0, 1, 2, 1), (0, 1, 2, 25), (0, 1, 0, -1), (False, 1, 0, None), (0, True, 0, None),
                 (0, 1, False, None), (0, 1, 0, True), (0, 1, None, None), (None, 1, 0, None), [0, 1, 0, None], (0, 1, 0, "")]
        for call in calls:
            for thing in OTHERS + [((0, 1, 0, None),) * 11, [(0, 1, 0, None)], (None,) * 11]:
                self.refused(BadBound, {"given": thing}, call, BOOK, thing)
            for thing in OTHERS + wrong:
                self.refused(BadBound, {"given": thing}, call, BOOK, ((0, 1, 0, None), thing, None))

    def test_keeps_all(self):
        for bounds, well in [((), True), (((0, 1, 1, 1),), True), (((0, 2, 4, None), (1, 2, 3, 3)), True), (((0, 2, 5, None),), False),
                             (((0, 2, 0, 3),), False), (((0, 1, 1, 1), (1, 2, 4, None)), False), (((0, 1, 0, 24),) * 10, True),
                             (((0, 2, 24, None),), False), (((0, 2, 0, None),), True)]:
            self.assertIs(keeps_all(book=BOOK, bounds=bounds, value=HELD), well)
        self.assertIs(keeps_all(BOOK, (), (1,) + HELD[1:]), False)
        for thing in OTHERS:
            self.assertIs(keeps_all(BOOK, (), thing), False)
        # That more than 2 run from one ENTRY to the next one is well here.
        self.assertIs(keeps_all(BOOK, ((0, 2, 0, None),) * 3, HELD), True)

    def test_too_many(self):
        for bounds in [((0, 1, 0, None),) * 3, ((0, 2, 0, None), (0, 1, 0, None), (0, 2, 1, 2)), ((1, 2, 0, None),) * 10]:
            self.refused(TooMany, {"most": 2}, check_bounds, BOOK, bounds, None)
            self.refused(TooMany, {"most": 2}, check_bounds, (ONE, CLOCK, (entry(heard=99),) + BOOK[2][1:]), bounds, ("kept", HELD))
        self.assertEqual(check_bounds(BOOK, ((0, 1, 0, None),) * 2 + ((1, 2, 0, None),) * 2, ("kept", HELD)), "kept")
        ten = tuple((at, at + 1, 0, None) for at in range(5)) * 2
        self.refused(BadPaper, {"part": "form"}, check_bounds, SIGNED, ten, None)


class BoundsPapers(Asking):

    def test_with_one_thing_otherwise(self):
        chance = random.Random(6)
        words = {}
        for book in FEW:
            told = plainbooks.histories(book)[:1] if sum(row[0][1] for row in book[2][1:]) < 5 else []
            for _ in range(3):
                bounds = bounds_by_chance(chance, len(book[2]), 2)
                rolls = rolls_of(book, bounds)
                papers = [("kept", history) for history, _ in told] + ([("clash", rolls)] if rolls is not None else [])
                for paper in papers:
                    tried = list(variants(paper))
                    some = [paper] + chance.sample(tried, min(40, len(tried)))
                    for word, many in self.judged_alike(judge_bounds, check_bounds, (book, bounds), some).items():
                        words[word] = words.get(word, 0) + many
        self.assertEqual(set(words), {"kept", "clash", ("bad", "form"), ("bad", "kept"), ("bad", "clash")})
        self.assertTrue(min(words.values()) > 20, words)

    def test_any_rolls(self):
        chance = random.Random(7)
        for book in FEW:
            for _ in range(4):
                bounds = bounds_by_chance(chance, len(book[2]), 2)
                rolls = []
                for _ in range(chance.randint(1, len(book[2]))):
                    keys = sorted({tuple(chance.choice((0, 0, 1, 2, 24)) for _ in bounds) for _ in range(chance.randrange(5))})
                    rolls.append(tuple((key, plainbooks.sets_by_states(book, set(plainbooks.all_states(book)) if chance.random() < 0.8 else set()))
                                       for key in keys))
                self.judged_alike(judge_bounds, check_bounds, (book, bounds), [("clash", (*rolls[:-1], ())), ("clash", tuple(rolls))])

    def test_of_books_that_are_not_right(self):
        chance = random.Random(8)
        many = 0
        for book in SMALL:
            if plainbooks.first_wrong(book) is not None:
                bounds = bounds_by_chance(chance, len(book[2]), 2)
                many += 1
                self.assertEqual(check_bounds(book=book, bounds=bounds, paper=("clash", rolls_of(book, bounds))), "clash")
                self.assertEqual(check_bounds(book, (), ("clash", rolls_of(book, ()))), "clash")
        self.assertGreater(many, 30)
        self.assertEqual(check_bounds((ONE, CLOCK, (entry(heard=9),)), (), ("clash", ((),))), "clash")
        self.refused(BadPaper, {"part": "clash"}, check_bounds, (ONE, CLOCK, (entry(heard=2),)), (), ("clash", ((),)))

    def test_counts(self):
        # At 0 the RESIDUE 0; 4 HOURS at most to 2, so 5 cannot be.
        bounds = ((0, 2, 5, None),)
        rows = [(((0,), EVEN),), (((0,), EVEN), ((1,), NONE), ((2,), WHOLE)), ()]
        self.refused(BadPaper, {"part": "clash"}, check_bounds, BOOK, bounds, ("clash", tuple(rows)))
        rows[1] = (((0,), WHOLE), ((1,), WHOLE), ((2,), WHOLE))
        self.refused(BadPaper, {"part": "clash"}, check_bounds, BOOK, bounds, ("clash", tuple(rows)))
        book = (ONE, CLOCK, BOOK[2][:2] + (entry((1, 2), heard=1),))
        self.assertEqual(check_bounds(book, bounds, ("clash", tuple(rows))), "clash")
        # COUNTS that cannot come are asked for all the same: 24 and an HOUR are no less than 5.
        rows[1] = rows[1] + (((24,), WHOLE),)
        self.refused(BadPaper, {"part": "clash"}, check_bounds, book, bounds, ("clash", tuple(rows)))
        rows[1] = rows[1][:3] + (((24,), NONE),)
        self.assertEqual(check_bounds(book, bounds, ("clash", tuple(rows))), "clash")
        rows[1] = rows[1][:3] + (((25,), NONE),)
        self.refused(BadPaper, {"part": "clash"}, check_bounds, book, bounds, ("clash", tuple(rows)))

    def test_a_count_is_cut_at_least(self):
        # With MOST None the count is LEAST if it is more, whatever it was: 24 and none are 1 then.
        book = (ONE, CLOCK, (entry(), entry((0, 0)), entry((0, 0)), entry((0, 0), heard=3)))
        bounds = ((0, 3, 1, None),)
        rows = ((((0,), WHOLE), ((24,), WHOLE)), (((0,), WHOLE), ((1,), WHOLE)), (((0,), WHOLE), ((1,), WHOLE)), ())
        self.assertEqual(check_bounds(book, bounds, ("clash", rows)), "clash")
        self.refused(BadPaper, {"part": "clash"}, check_bounds, book, bounds, ("clash", rows[:1] + ((((0,), WHOLE), ((2,), WHOLE)),) + rows[2:]))
        # With a MOST it goes on, and is broken beyond it; ahead of ONE and from OTHER on it is 0.
        bounds = ((1, 3, 0, 5),)
        rows = ((((0,), WHOLE), ((7,), WHOLE)), (((0,), WHOLE), ((5,), WHOLE), ((6,), WHOLE)), (((0,), WHOLE), ((5,), WHOLE)), ())
        self.assertEqual(check_bounds(book, bounds, ("clash", rows)), "clash")
        self.refused(BadPaper, {"part": "clash"}, check_bounds, book, bounds, ("clash", rows[:2] + (rows[2][:1],) + rows[3:]))

    def test_form(self):
        for thing in OTHERS + [(), ("kept",), ("clash",), ("kept", HELD, 0), ("right", HELD), ("broken", ((),)), [("kept", HELD)]]:
            self.refused(BadPaper, {"part": "form"}, check_bounds, BOOK, (), thing)
        for thing in OTHERS:
            self.refused(BadPaper, {"part": "form"}, check_bounds, BOOK, (), (thing, HELD))
            self.refused(BadPaper, {"part": "kept"}, check_bounds, BOOK, (), ("kept", thing))
            for rolls in (thing, (thing,), (thing, ()), (((thing,),), ()), ((((), thing),), ()), (((thing, WHOLE),), ())):
                self.refused(BadPaper, {"part": "clash"}, check_bounds, BOOK, (), ("clash", rolls))


class Duties(Asking):

    def test_duties_are_themselves(self):
        for duty in [("a", "z", 0, "within"), ("m", "m", 24, "not before")]:
            self.assertIs(need_duty(duty), duty)
            self.assertIs(need_duty(thing=duty), duty)

    def test_what_is_no_duty(self):
        calls = [need_duty] + [lambda duty, call=call: call(BOOK, duty) for call in (bound_by, bounds_of)]
        calls += [lambda duty: check_duty(BOOK, duty, None)]
        for call in calls:
            for thing in OTHERS + [(), ("a", "b", 0), ("a", "b", 0, "within", 0), ["a", "b", 0, "within"], ("A", "b", 0, "within"),
                                   ("a", "", 0, "within"), ("a", "bb", 0, "within"), ("a", "b", -1, "within"), ("a", "b", 25, "within"),
                                   ("a", "b", True, "within"), ("a", "b", 0, "before"), ("a", "b", 0, None), ("a", None, 0, "within"),
                                   ("a", b"b", 0, "within"), ("a", "b", 0, ("within",)), ("a", "b", 0, "notbefore")]:
                self.refused(BadDuty, {"given": thing}, call, thing)

    def test_whom_a_duty_binds(self):
        self.told(((0, 1), (2, 3), (3, 5)), bound_by(book=SIGNED, duty=("a", "b", 3, "within")))
        self.told(((0, 2), (2, 3)), bound_by(SIGNED, ("a", "a", 3, "within")))
        self.told(((1, 3), (3, 5)), bound_by(SIGNED, ("b", "b", 0, "not before")))
        self.told(((2, 5),), bound_by(SIGNED, ("c", "c", 0, "within")))
        self.told(((0, 2), (2, 5), (3, 5)), bound_by(SIGNED, ("a", "c", 0, "within")))
        self.told((), bound_by(SIGNED, ("z", "a", 0, "within")))
        self.told((), bound_by(SIGNED, ("d", "a", 0, "within")))
        self.told((), bound_by((ONE, CLOCK, (entry(signs=("a", "b")),)), ("a", "b", 0, "within")))

    def test_bounds_of_a_duty(self):
        self.told(((0, 2, 0, 3), (2, 5, 0, 3)), bounds_of(book=SIGNED, duty=("a", "c", 3, "within")))
        self.told(((0, 2, 3, None), (3, 5, 3, None)), bounds_of(SIGNED, ("a", "c", 3, "not before")))
        self.told((), bounds_of(SIGNED, ("z", "a", 24, "not before")))

    def test_against_plain_ones(self):
        chance = random.Random(12)
        for book in SMALL + [SIGNED]:
            for _ in range(3):
                signed, duty = with_signs(chance, book), duty_by_chance(chance)
                self.told(plainbooks.bound_by(signed, duty), bound_by(signed, duty))
                bounds = bounds_of(signed, duty)
                self.told(plainbooks.bounds_of(signed, duty), bounds)
                self.assertIs(need_bounds(signed, bounds), bounds)
                self.assertLessEqual(most_running(bounds), 1)
                # A HISTORY keeps a DUTY exactly if it keeps its BOUNDS, and not one exactly if it keeps its CONTRARY.
                for _, hours in plainbooks.ways(book)[:20]:
                    kept = [plainbooks.keeps(hours, bound) for bound in bounds]
                    self.assertIs(plainbooks.keeps_duty(signed, hours, duty), all(kept))
                    for bound, well in zip(bounds, kept):
                        other = contrary(bound)
                        self.assertIs(well, True if other is None else not plainbooks.keeps(hours, other))


class DutyPapers(Asking):

    def papers(self, book, duty):
        """All papers on a DUTY that hold, of each word one."""
        told = plainbooks.histories(book) if sum(row[0][1] for row in book[2][1:]) < 5 else []
        kept = [history for history, _ in told if plainbooks.keeps_duty(book, lengths(history), duty)]
        others = [history for history, _ in told if not plainbooks.keeps_duty(book, lengths(history), duty)]
        bounds = plainbooks.bounds_of(book, duty)
        rolls = [() if contrary(bound) is None else rolls_of(book, (contrary(bound),)) for bound in bounds]
        papers = [("open", kept[-1], others[0])] if kept and others else []
        papers += [("broken", rolls_of(book, bounds))] if rolls_of(book, bounds) is not None else []
        return papers + ([("kept", tuple(rolls))] if None not in rolls else [])

    def test_with_one_thing_otherwise(self):
        chance = random.Random(16)
        words = {}
        for book in FEW:
            book = with_signs(chance, book)
            for _ in range(3):
                duty = duty_by_chance(chance)
                papers = self.papers(book, duty)
                if plainbooks.first_wrong(book) is None and sum(row[0][1] for row in book[2][1:]) < 5:
                    self.assertEqual([paper[0] for paper in papers], [plainbooks.standing(book, duty)])
                for paper in papers:
                    self.assertEqual(check_duty(book=book, duty=duty, paper=paper), paper[0])
                    tried = list(variants(paper))
                    some = [paper] + chance.sample(tried, min(30, len(tried)))
                    for word, many in self.judged_alike(judge_duty, check_duty, (book, duty), some).items():
                        words[word] = words.get(word, 0) + many
        self.assertEqual(set(words), {"open", "broken", "kept", ("bad", "form"), ("bad", "open"), ("bad", "broken"), ("bad", "kept")})
        self.assertTrue(min(words[word] for word in words if word != "open") > 20, words)

    def test_open(self):
        book = ((1, 1, 1, 1), ((1, 2), 0, 0), (entry(signs=("a",)), entry((0, 2), level=0), entry((0, 1), signs=("b",))))
        told = [history for history, _ in plainbooks.histories(book)][::5]
        words = {}
        for duty in [("a", "b", 1, "within"), ("a", "b", 2, "not before"), ("a", "b", 3, "within"), ("b", "a", 1, "within")]:
            papers = [("open", one, other) for one in told[::3] for other in told[1::3]]
            papers += list(variants(papers[0])) + list(variants(("open", told[0], told[-1])))
            for word, many in self.judged_alike(judge_duty, check_duty, (book, duty), papers).items():
                words[word] = words.get(word, 0) + many
        self.assertEqual(set(words), {"open", ("bad", "form"), ("bad", "open")})
        self.assertTrue(min(words.values()) > 20, words)

    def test_what_binds_nothing(self):
        for duty in [("z", "a", 0, "within"), ("a", "z", 24, "not before"), ("q", "q", 0, "within")]:
            self.assertEqual(check_duty(BOOK, duty, ("kept", ())), "kept")
            self.refused(BadPaper, {"part": "kept"}, check_duty, BOOK, duty, ("kept", ((),)))
            self.refused(BadPaper, {"part": "open"}, check_duty, BOOK, duty, ("open", HELD, HELD))
            self.refused(BadPaper, {"part": "broken"}, check_duty, BOOK, duty, ("broken", ((),)))

    def test_without_contraries(self):
        for duty in [("a", "b", 24, "within"), ("a", "b", 0, "not before")]:
            self.assertEqual(check_duty(BOOK, duty, ("kept", ((),))), "kept")
            self.refused(BadPaper, {"part": "kept"}, check_duty, BOOK, duty, ("kept", ()))
            self.refused(BadPaper, {"part": "kept"}, check_duty, BOOK, duty, ("kept", (((),),)))
        self.refused(BadPaper, {"part": "kept"}, check_duty, BOOK, ("a", "b", 23, "within"), ("kept", ((),)))
        self.refused(BadPaper, {"part": "kept"}, check_duty, BOOK, ("a", "b", 1, "not before"), ("kept", ((),)))
        rolls = ((((0,), EVEN),), ())
        self.assertEqual(check_duty(BOOK, ("a", "b", 2, "within"), ("kept", (rolls,))), "kept")
        self.refused(BadPaper, {"part": "kept"}, check_duty, BOOK, ("a", "b", 1, "within"), ("kept", (rolls,)))
        self.assertEqual(check_duty(BOOK, ("a", "b", 3, "not before"), ("broken", rolls)), "broken")
        self.refused(BadPaper, {"part": "broken"}, check_duty, BOOK, ("a", "b", 2, "not before"), ("broken", rolls))

    def test_form(self):
        duty = ("a", "b", 1, "within")
        for thing in OTHERS + [(), ("open",), ("open", HELD), ("open", HELD, HELD, 0), ("broken",), ("kept", (), ()), ("clash", ((),)), ("right", HELD)]:
            self.refused(BadPaper, {"part": "form"}, check_duty, BOOK, duty, thing)
        for thing in OTHERS:
            self.refused(BadPaper, {"part": "open"}, check_duty, BOOK, duty, ("open", HELD, thing))
            self.refused(BadPaper, {"part": "open"}, check_duty, BOOK, duty, ("open", thing, HELD))
            self.refused(BadPaper, {"part": "broken"}, check_duty, BOOK, duty, ("broken", thing))
            self.refused(BadPaper, {"part": "kept"}, check_duty, BOOK, duty, ("kept", thing))
            self.refused(BadPaper, {"part": "kept"}, check_duty, BOOK, duty, ("kept", (thing,)))

    def test_of_books_that_are_not_right(self):
        book = (ONE, CLOCK, BOOK[2][:2] + (entry((1, 1), heard=3),))
        rolls = ((((0,), WHOLE),), (((0,), WHOLE), ((1,), WHOLE), ((2,), WHOLE)), ())
        self.assertEqual(check_duty(book, ("a", "b", 2, "within"), ("broken", rolls)), "broken")
        self.assertEqual(check_duty(book, ("a", "b", 2, "within"), ("kept", (rolls,))), "kept")
        self.assertEqual(check_duty(book, ("a", "b", 1, "not before"), ("kept", (rolls,))), "kept")

    def test_great_books(self):
        for book in GREAT:
            signed = (*book[:2], ((*book[2][0][:6], ("a",)),) + tuple((*row[:6], ("b",)) for row in book[2][1:]))
            sets = suiting(signed, 0)
            rolls = ((((0,), sets),), ()) if any(any(lot) for lot in sets) else ((),)
            least, most = signed[2][1][0]
            if most < 12:
                self.assertEqual(check_duty(signed, ("a", "b", most, "within"), ("kept", (rolls,))), "kept")
                self.assertEqual(check_bounds(signed, ((0, 1, most + 1, None),), ("clash", rolls)), "clash")
            self.refused(BadPaper, {"part": "clash"}, check_bounds, signed, ((0, 1, least, most),), ("clash", rolls))


class WrongArguments(Asking):

    def test_in_turn(self):
        self.refuses_wrong_books(
            lambda book: need_bounds(book, None), lambda book: bound_by(book, None), lambda book: bounds_of(book, None),
            lambda book: keeps_all(book, None, None), lambda book: check_bounds(book, None, None), lambda book: check_duty(book, None, None))
        self.refused(BadBound, {"given": None}, check_bounds, BOOK, ((0, 1, 0, None),) * 3 + (None,), None)
        self.refused(BadBound, {"given": ((0, 1, 0, BIG),) * 11}, check_bounds, BOOK, ((0, 1, 0, BIG),) * 11, None)


if __name__ == "__main__":
    unittest.main()
