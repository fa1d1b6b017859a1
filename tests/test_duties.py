import random
import unittest

from lockkeeper.bookpapers import agrees
from lockkeeper.dutypapers import bounds_of, check_bounds, check_duty, keeps_all
from lockkeeper.duties import all_at_once, at_once, bounds_paper, duty_paper, standing_of
from lockkeeper.errors import BadBound, BadDuty, TooMany, Wrong
from lockkeeper.maybes import totals
from lockkeeper.tables import first_wrong, is_right
from tests import plainbooks
from tests.asking import Asking
from tests.plain import OTHERS, same, variants
from tests.plainjudges import contrary, judge_bounds, judge_duty
from tests.somebooks import BIG, CLOCK, GREAT, ONE, SMALL, TWELVE, books_by_chance, entry, scaled
from tests.someduties import SIGNED, bounds_by_chance, duty_by_chance, most_running, with_signs

RIGHT = [book for book in SMALL if plainbooks.first_wrong(book) is None]
WRONG = [book for book in SMALL if plainbooks.first_wrong(book) is not None]
NO = (ONE, CLOCK, (entry(heard=1), entry((1, 1), heard=1), entry((1, 1))))
# At the RESIDUE 0 each time: in 0, 2 or 4 HOURS, and in 2 or 4.
BOOK = (ONE, CLOCK, (entry(heard=1, signs=("a",)), entry((0, 4), heard=1, signs=("b",)), entry((1, 4), heard=1, signs=("c",))))


class AtOnce(Asking):

    def test_against_all_histories(self):
        chance = random.Random(17)
        told = {True: 0, False: 0}
        for book in RIGHT:
            for _ in range(6):
                bounds = bounds_by_chance(chance, len(book[2]), 4)
                if most_running(bounds) > 2:
                    self.refused(TooMany, {"most": 2}, at_once, book, bounds)
                    self.refused(TooMany, {"most": 2}, bounds_paper, book, bounds)
                    continue
                well = any(all(plainbooks.keeps(hours, bound) for bound in bounds) for _, hours in plainbooks.ways(book))
                told[well] += 1
                self.assertIs(at_once(book=book, bounds=bounds), well)
                paper = bounds_paper(book=book, bounds=bounds)
                self.assertEqual(check_bounds(book, bounds, paper), "kept" if well else "clash")
                self.assertEqual(judge_bounds(book, bounds, paper), "kept" if well else "clash")
                self.assertTrue(same(paper, bounds_paper(book, bounds)))
        self.assertGreater(min(told.values()), 80)

    def test_what_is_told(self):
        for bounds, well in [
            ((), True), (((0, 1, 3, 3),), False), (((0, 1, 3, None),), True), (((0, 1, 4, 4), (1, 2, 4, 4)), True),
            (((0, 1, 4, None), (0, 2, 0, 5)), False), (((0, 1, 4, None), (0, 2, 0, 6)), True), (((0, 2, 0, 1),), False),
            (((0, 2, 2, 2),), True), (((0, 2, 24, None),), False), (((0, 2, 0, None),), True), (((0, 2, 0, 24),), True),
            (((0, 2, 8, None), (1, 2, 0, 3)), False), (((0, 1, 0, 0), (0, 1, 0, 24), (1, 2, 1, None), (1, 2, 4, 4)), True),
        ]:
            self.assertIs(at_once(BOOK, bounds), well)
            self.assertEqual(bounds_paper(BOOK, bounds)[0], "kept" if well else "clash")

    def test_ten_bounds(self):
        rows = (entry(heard=1),) + (entry((0, 4)),) * 5
        book = (ONE, (TWELVE, 0, 0), rows)
        bounds = tuple((at, at + 1, 0, 4) for at in range(5)) + tuple((at, at + 1, at, None) for at in range(5))
        self.assertIs(at_once(book, bounds), True)
        self.assertEqual(check_bounds(book, bounds, bounds_paper(book, bounds)), "kept")
        bounds = bounds[:5] + tuple((at, at + 1, at + 1, None) for at in range(5))
        self.assertIs(at_once(book, bounds), False)
        self.assertEqual(check_bounds(book, bounds, bounds_paper(book, bounds)), "clash")
        # Two that run all the way, with all HOURS that the GAPS have together.
        for bounds, well in [(((0, 5, 20, 20), (0, 5, 0, 24)), True), (((0, 5, 20, None), (1, 5, 0, 15)), False),
                             (((0, 5, 17, 17), (1, 5, 13, 13)), True), (((0, 5, 17, 17), (1, 5, 12, 12)), False)]:
            self.assertIs(at_once(book, bounds), well)
            self.assertEqual(check_bounds(book, bounds, bounds_paper(book, bounds)), "kept" if well else "clash")
        self.refused(TooMany, {"most": 2}, at_once, book, ((0, 1, 0, None),) * 10)
        self.refused(BadBound, {"given": ((0, 1, 0, None),) * 11}, at_once, book, ((0, 1, 0, None),) * 11)

    def test_wrong_arguments_in_turn(self):
        for call in (at_once, bounds_paper):
            self.refuses_wrong_books(lambda book, call=call: call(book, None))
            for book in (BOOK, NO):
                for thing in OTHERS + [[(0, 1, 0, None)]]:
                    self.refused(BadBound, {"given": thing}, call, book, thing)
                for thing in OTHERS + [(), (1, 1, 0, None), (0, 3, 0, None), (0, 1, 2, 1), (0, 1, 25, None)]:
                    self.refused(BadBound, {"given": thing}, call, book, ((0, 1, 0, None),) * 3 + (thing,))
                self.refused(TooMany, {"most": 2}, call, book, ((0, 1, 0, None),) * 3)
            self.refused(Wrong, {"number": 1}, call, NO, ())
            self.refused(Wrong, {"number": 1}, call, NO, ((0, 1, 0, None),) * 2)
        for book in WRONG:
            self.refused(Wrong, {"number": plainbooks.first_wrong(book)}, at_once, book, ())

    def test_no_bounds(self):
        for book in RIGHT + [book for book in GREAT if is_right(book)]:
            self.assertIs(at_once(book, ()), True)
            self.assertIs(agrees(book, bounds_paper(book, ())[1]), True)

    def test_the_word_of_a_bounds_paper_alone(self):
        # What is not so of one BOUND is so of none with it.
        for book in RIGHT[:60]:
            for other in range(1, len(book[2])):
                had = totals(book, 0, other)
                for least in range(8):
                    self.assertIs(at_once(book, ((0, other, least, least),)), least in had)
                    self.assertIs(at_once(book, ((0, other, least, None),)), had[-1] >= least)


class Standings(Asking):

    def test_against_all_histories(self):
        chance = random.Random(18)
        told = {}
        for book in RIGHT:
            for _ in range(4):
                signed, duty = with_signs(chance, book), duty_by_chance(chance)
                word = plainbooks.standing(signed, duty)
                told[word] = told.get(word, 0) + 1
                self.assertEqual(standing_of(book=signed, duty=duty), word)
                paper = duty_paper(book=signed, duty=duty)
                self.assertEqual(check_duty(signed, duty, paper), word)
                self.assertEqual(judge_duty(signed, duty, paper), word)
                self.assertTrue(same(paper, duty_paper(signed, duty)))
        self.assertTrue(len(told) == 3 and min(told.values()) > 15, told)

    def test_what_is_told(self):
        for duty, word in [(("a", "b", 4, "within"), "kept"), (("a", "b", 3, "within"), "open"), (("a", "b", 0, "within"), "open"),
                           (("b", "c", 1, "within"), "broken"), (("b", "c", 2, "within"), "open"), (("b", "c", 2, "not before"), "kept"),
                           (("b", "c", 4, "not before"), "open"), (("b", "c", 5, "not before"), "broken"), (("a", "c", 8, "within"), "kept"),
                           (("a", "c", 24, "within"), "kept"), (("a", "c", 0, "not before"), "kept"), (("a", "c", 24, "not before"), "broken"),
                           (("c", "a", 0, "within"), "kept"), (("x", "x", 24, "not before"), "kept"), (("a", "a", 0, "within"), "kept")]:
            self.assertEqual(standing_of(BOOK, duty), word)
            self.assertEqual(duty_paper(BOOK, duty)[0], word)
            self.assertEqual(check_duty(BOOK, duty, duty_paper(BOOK, duty)), word)

    def test_what_binds_nothing_is_kept(self):
        for duty in [("z", "a", 0, "within"), ("d", "d", 24, "not before")]:
            self.assertEqual(standing_of(SIGNED, duty), "kept")
            self.told(("kept", ()), duty_paper(SIGNED, duty))

    def test_the_same_letter_twice(self):
        self.told(((0, 2, 0, 3), (2, 3, 0, 3)), bounds_of(SIGNED, ("a", "a", 3, "within")))
        for hours, word in [(0, "open"), (3, "kept"), (1, "open")]:
            book = (ONE, CLOCK, (entry(signs=("a",)), entry((0, 3), signs=("a",)), entry((0, 3), signs=("a",))))
            self.assertEqual(standing_of(book, ("a", "a", hours, "within")), word)

    def test_papers_with_one_thing_otherwise(self):
        chance = random.Random(19)
        for book in books_by_chance(30, seed=77, most_entries=3, most_ways=200):
            if is_right(book):
                signed, duty = with_signs(chance, book), duty_by_chance(chance)
                tried = list(variants(duty_paper(signed, duty)))
                self.judged_alike(judge_duty, check_duty, (signed, duty), chance.sample(tried, min(50, len(tried))))

    def test_contraries_and_standings(self):
        chance = random.Random(20)
        for book in RIGHT:
            signed, duty = with_signs(chance, book), duty_by_chance(chance)
            bounds = bounds_of(signed, duty)
            others = [contrary(bound) for bound in bounds if contrary(bound) is not None]
            could = [at_once(signed, (other,)) for other in others]
            word = "broken" if not at_once(signed, bounds) else "open" if any(could) else "kept"
            self.assertEqual(standing_of(signed, duty), word)

    def test_wrong_arguments_in_turn(self):
        for call in (standing_of, duty_paper):
            self.refuses_wrong_books(lambda book, call=call: call(book, None))
            for book in (BOOK, NO):
                for thing in OTHERS + [(), ("a", "b", 25, "within"), ("a", "b", 0, "after"), ["a", "b", 0, "within"]]:
                    self.refused(BadDuty, {"given": thing}, call, book, thing)
            self.refused(Wrong, {"number": 1}, call, NO, ("a", "b", 0, "within"))
        for book in WRONG:
            self.refused(Wrong, {"number": plainbooks.first_wrong(book)}, standing_of, book, ("q", "q", 0, "within"))


class AllAtOnce(Asking):

    def test_against_all_histories(self):
        chance = random.Random(22)
        told = {True: 0, False: 0}
        for book in RIGHT:
            for many in (1, 2, 2):
                signed, some = with_signs(chance, book), tuple(duty_by_chance(chance) for _ in range(many))
                well = any(all(plainbooks.keeps_duty(signed, hours, duty) for duty in some) for _, hours in plainbooks.ways(book))
                told[well] += 1
                self.assertIs(all_at_once(book=signed, duties=some), well)
                if many == 1:
                    self.assertIs(standing_of(signed, some[0]) != "broken", well)
        self.assertGreater(min(told.values()), 30)

    def test_what_is_told(self):
        early, late = ("a", "b", 1, "within"), ("a", "b", 2, "not before")
        self.assertIs(all_at_once(BOOK, (early,)), True)
        self.assertIs(all_at_once(BOOK, (late,)), True)
        self.assertIs(all_at_once(BOOK, (early, late)), False)
        self.assertIs(all_at_once(BOOK, (late, late)), True)
        self.assertIs(all_at_once(BOOK, (early, ("a", "c", 5, "not before"))), False)
        self.assertIs(all_at_once(BOOK, (early, ("a", "c", 4, "not before"))), True)
        self.assertIs(all_at_once(SIGNED, (("a", "b", 24, "within"), ("z", "z", 0, "within"))), True)

    def test_as_many_bounds_as_there_can_be(self):
        rows = (entry(signs=("a",)),) + (entry((0, 4), signs=("a",)),) * 5
        book = (ONE, (TWELVE, 0, 0), rows)
        some = (("a", "a", 3, "within"), ("a", "a", 3, "not before"))
        self.assertEqual(sum(len(bounds_of(book, duty)) for duty in some), 10)
        self.assertIs(all_at_once(book, some), True)
        self.assertIs(all_at_once(book, (some[0], ("a", "a", 4, "not before"))), False)

    def test_wrong_arguments_in_turn(self):
        self.refuses_wrong_books(lambda book: all_at_once(book, None))
        duty = ("a", "b", 0, "within")
        for book in (BOOK, NO):
            for thing in OTHERS + [(), (duty,) * 3, [duty], (None,) * 3]:
                self.refused(BadDuty, {"given": thing}, all_at_once, book, thing)
            for thing in OTHERS + [(), ("a", "b", 25, "within")]:
                self.refused(BadDuty, {"given": thing}, all_at_once, book, (duty, thing))
                self.refused(BadDuty, {"given": thing}, all_at_once, book, (thing, "none"))
        self.refused(Wrong, {"number": 1}, all_at_once, NO, (duty,))


class Great(Asking):

    def test_great_books(self):
        for book in GREAT:
            if not is_right(book):
                self.refused(Wrong, {"number": first_wrong(book)}, at_once, book, ())
                continue
            last = len(book[2]) - 1
            had = totals(book, 0, last)
            for least, most in [(had[0], had[0]), (had[-1], None), (0, had[-1]), (had[-1] + 1, None), (0, had[0] - 1)]:
                if 0 <= least <= 24 and (most is None or most >= least):
                    bounds = ((0, last, least, most), (0, 1, 0, 24))
                    well = any(least <= total and (most is None or total <= most) for total in had)
                    self.assertIs(at_once(book, bounds), well)
                    paper = bounds_paper(book, bounds)
                    self.assertEqual(check_bounds(book, bounds, paper), "kept" if well else "clash")
                    self.assertTrue(not well or keeps_all(book, bounds, paper[1]))

    def test_levels_and_rates_times_a_great_number(self):
        chance = random.Random(23)
        for book in RIGHT:
            signed, duty = with_signs(chance, book), duty_by_chance(chance)
            great = scaled(signed, 10 ** 29)
            self.assertEqual(standing_of(signed, duty), standing_of(great, duty))
            self.assertEqual(check_duty(great, duty, duty_paper(great, duty)), standing_of(signed, duty))

    def test_a_boat_through_a_great_lock(self):
        # 10 HOURS of water, one at the gate: 11 at least from the one ENTRY to the other one.
        book = ((BIG, BIG, BIG // 10, 1), (TWELVE, 0, 0), (
            entry(level=BIG, boats=1, heard=1, signs=("a",)), entry((0, 12), level=0, boats=0, signs=("b",), passed=(0, 0, 0, 1))))
        self.assertEqual([standing_of(book, ("a", "b", hours, "within")) for hours in (10, 11, 12)], ["broken", "open", "kept"])
        self.assertEqual([standing_of(book, ("a", "b", hours, "not before")) for hours in (11, 12, 13)], ["kept", "open", "broken"])


if __name__ == "__main__":
    unittest.main()
