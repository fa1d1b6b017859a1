import random
import unittest

from lockkeeper.errors import BadLook, BadTree, TooMany, Wrong
from lockkeeper.looks import answers_of, look_of
from lockkeeper.histories import history_of
from lockkeeper.tables import is_right
from lockkeeper.treepapers import check_looks, comes_to
from lockkeeper.trees import all_answers, claim_word, depth, first_looks, look_paper, scant_lots, settles
from tests import plainbooks, plaintrees
from tests.asking import Asking
from tests.plain import OTHERS
from tests.somebooks import BIG, CLOCK, GREAT, ONE, SMALL, TWELVE, books_by_chance, entry, scaled
from tests.somelooks import hours_by_chance, menu_by_chance

BOOK = (ONE, CLOCK, (entry(heard=1, boats=0), entry((0, 1)), entry((1, 1), level=2)))
WRONG = (ONE, CLOCK, (entry(level=0), entry((0, 1), level=2), entry((0, 1))))
EIGHT = (ONE, (tuple(range(8)), 0, 0), (entry(),))
BITS = tuple(("hour", 0, tuple(at for at in range(8) if at >> bit & 1)) for bit in range(3))
TEN = (ONE, (tuple(range(10)), 0, 0), (entry(), entry((0, 9)), entry((0, 9)), entry((0, 0))))
FAR = (("between", 0, 3, BIG), ("between", 1, 3, BIG), ("boats", 0, 1))
RIGHT = [book for book in SMALL + books_by_chance(120, seed=5, keep=0.25) if plainbooks.first_wrong(book) is None]


def some_asked(seed):
    """BOOKS, MENUS and CLAIMS by a chance that is the same each time."""
    chance = random.Random(seed)
    asked = []
    for book in RIGHT:
        tried = [menu_by_chance(chance, book) for _ in range(8)]
        opened = [pair for pair in tried if plaintrees.claim_word(book, pair[1]) == "open"]
        asked += [(book, *pair) for pair in (opened[:3] or tried[:1])]
    for many in (1, 2, 8, 12, 12, 12) * 10:
        book = ((0, 1, 1, 1), (tuple(range(many)), 0, 0), (entry(), entry((0, 1)), entry((0, 0), boats=0))[:chance.randint(1, 3)])
        asked.append((book, *hours_by_chance(chance, book, chance.randrange(len(book[2])))))
    return asked


class Trees(Asking):

    def test_against_all_histories_and_trees(self):
        depths = {}
        for book, menu, claim in some_asked(35):
            least = plaintrees.depth(book, menu, claim)
            self.told(least, depth(book=book, menu=menu, claim=claim))
            self.told(tuple(sorted({answers for answers, _ in plaintrees.rows(book, menu, claim)})), all_answers(book=book, menu=menu))
            self.told(plaintrees.claim_word(book, claim), claim_word(book=book, claim=claim))
            self.told(plaintrees.first_looks(book, menu, claim), first_looks(book=book, menu=menu, claim=claim))
            self.told(plaintrees.scant_lots(book, menu, claim), scant_lots(book=book, menu=menu, claim=claim))
            depths[least] = depths.get(least, 0) + 1
        self.assertTrue(all(depths.get(least, 0) > 3 for least in (None, 0, 1, 2, 3)), depths)

    def test_which_trees_settle(self):
        chance = random.Random(36)
        settled = 0
        for book, menu, claim in some_asked(37):
            rows = plaintrees.rows(book, menu, claim)
            every = plaintrees.trees(tuple(range(len(menu))), 3)
            for tree in chance.sample(every, min(12, len(every))):
                worth = all(plaintrees.end_of(tree, answers) == claimed for answers, claimed in rows)
                self.assertIs(worth, settles(book=book, menu=menu, claim=claim, tree=tree))
                settled += worth
        self.assertGreater(settled, 150)

    def test_papers_hold(self):
        words = {}
        for book, menu, claim in some_asked(38):
            paper = look_paper(book=book, menu=menu, claim=claim)
            least = depth(book, menu, claim)
            word = check_looks(book, menu, claim, paper)
            self.assertEqual(word, "alike" if least is None else "tree")
            self.assertEqual(word, plaintrees.judge_looks(book, menu, claim, paper))
            if word == "tree":
                self.assertIs(settles(book, menu, claim, paper[1]), True)
                history = history_of(book)
                self.assertIs(comes_to(book, menu, paper[1], answers_of(book, history, menu)), look_of(book, history, claim))
            words[word] = words.get(word, 0) + 1
        self.assertGreater(min(words["tree"], words["alike"]), 100)

    def test_three_bits(self):
        odd = ("hour", 0, (1, 2, 4, 7))
        self.assertEqual(depth(EIGHT, BITS, odd), 3)
        self.told((0, 1, 2), first_looks(EIGHT, BITS, odd))
        self.told(((0, 1, 2),), scant_lots(EIGHT, BITS, odd))
        # The first bit tells which of the others is asked for.
        chosen = ("hour", 0, tuple(at for at in range(8) if at >> (1 + (at & 1)) & 1))
        self.assertEqual(depth(EIGHT, BITS, chosen), 2)
        self.told((0,), first_looks(EIGHT, BITS, chosen))
        self.told(((0, 1, 2),), scant_lots(EIGHT, BITS, chosen))
        self.assertIs(settles(EIGHT, BITS, chosen, (0, (2, True, False), (1, True, False))), True)
        self.assertIs(settles(EIGHT, BITS, chosen, (0, (1, True, False), (2, True, False))), False)
        self.assertEqual(depth(EIGHT, BITS[:2], odd), None)
        self.told((), first_looks(EIGHT, BITS[:2], odd))
        self.told((), scant_lots(EIGHT, BITS[:2], odd))

    def test_four_deep(self):
        odd = ("hour", 0, (1, 2, 4, 7))
        deepest = (0, (1, (2, True, False), (2, False, True)), (1, (2, False, True), (2, True, False)))
        self.assertIs(settles(EIGHT, BITS, odd, deepest), True)
        self.assertEqual(plaintrees.deep(deepest), 4)
        self.refused(BadTree, {"given": (0, deepest, True)}, settles, EIGHT, BITS, odd, (0, deepest, True))

    def test_the_same_look_twice(self):
        menu = (BITS[1], BITS[1], BITS[0])
        self.told(((0,), (1,)), scant_lots(EIGHT, menu, BITS[1]))
        self.told((0, 1), first_looks(EIGHT, menu, BITS[1]))
        self.told(((2,),), scant_lots(EIGHT, menu, BITS[0]))
        self.assertIs(settles(EIGHT, menu, BITS[1], (1, (0, True, False), False)), True)

    def test_menus_of_none(self):
        self.told(((),), all_answers(EIGHT, ()))
        for claim, word, least, scant in [(BITS[0], "open", None, ()), (("hour", 0, ()), "never", 0, ((),)), (("level", 0, 0), "sure", 0, ((),))]:
            self.told(word, claim_word(EIGHT, claim))
            self.told(least, depth(EIGHT, (), claim))
            self.told((), first_looks(EIGHT, (), claim))
            self.told(scant, scant_lots(EIGHT, (), claim))
            self.assertEqual(check_looks(EIGHT, (), claim, look_paper(EIGHT, (), claim)), "alike" if least is None else "tree")
        self.told(("tree", False, ((((0, (0,), (-1,)), (((0, 2),), ((0, 2),))),),)), look_paper((ONE, ((1,), 0, 0), (entry(),)), (), ("level", 0, 3)))

    def test_alike_to_the_one_stand(self):
        told = look_paper((ONE, ((1,), 0, 0), (entry(boats=0),)), (("level", 0, 1),), ("level", 0, 2))
        self.told(("alike", (0, (2, 0), ()), (0, (1, 0), ())), told)

    def test_what_is_enough_stays_so(self):
        for book, menu, claim in some_asked(39):
            if len(menu) < 3:
                further = menu + (("boats", 0, 1),)
                one, other = depth(book, menu, claim), depth(book, further, claim)
                if one is not None:
                    self.assertLessEqual(other, one)
                    self.assertTrue(all(any(set(few) <= set(lot) for few in scant_lots(book, further, claim)) for lot in scant_lots(book, menu, claim)))

    def test_too_many(self):
        for call in (depth, first_looks, scant_lots, look_paper):
            self.refused(TooMany, {"most": 2000}, call, TEN, FAR, ("level", 2, 1))
        self.refused(TooMany, {"most": 2000}, settles, TEN, FAR, ("level", 2, 1), True)
        # By the MENU alone there are 2,000, by the CLAIM alone fewer still.
        self.assertEqual(len(all_answers(TEN, FAR)), 2)
        self.refused(TooMany, {"most": 2000}, all_answers, (ONE, (tuple(range(11)), 0, 0), TEN[2]), FAR)
        self.assertEqual(claim_word(TEN, ("between", 0, 3, 18)), "open")
        self.assertEqual(depth(TEN, FAR[:2], ("boats", 0, 1)), None)
        paper = look_paper(TEN, FAR[:2], ("boats", 0, 1))
        self.assertEqual(check_looks(TEN, FAR[:2], ("boats", 0, 1), paper), "alike")
        paper = look_paper(TEN, FAR[:2], ("level", 3, 0))
        self.assertEqual(len(paper[2][2]), 1000)
        self.assertEqual(check_looks(TEN, FAR[:2], ("level", 3, 0), paper), "tree")

    def test_two_thousand_keys(self):
        paper = look_paper(TEN, FAR, ("level", 3, 0))
        self.assertEqual(len(paper[2][2]), 2000)
        self.assertEqual(check_looks(TEN, FAR, ("level", 3, 0), paper), "tree")

    def test_great_books(self):
        chance = random.Random(40)
        times = 10 ** 29
        for book in GREAT:
            if is_right(book):
                for _ in range(4):
                    menu, claim = menu_by_chance(chance, book)
                    word = check_looks(book, menu, claim, look_paper(book, menu, claim))
                    self.assertEqual(word, "alike" if depth(book, menu, claim) is None else "tree")
        for book in RIGHT[:60]:
            menu, claim = menu_by_chance(chance, book)
            looks = [(word, number, least * times if least < BIG else BIG) if word == "level" else (word, number, least, *rest)
                     for word, number, least, *rest in menu + (claim,)]
            great = scaled(book, times)
            self.assertLessEqual(set(all_answers(book, menu)), set(all_answers(great, tuple(looks[:-1]))))
            word = check_looks(great, tuple(looks[:-1]), looks[-1], look_paper(great, tuple(looks[:-1]), looks[-1]))
            self.assertIn(word, ("tree", "alike"))


class WrongArguments(Asking):

    calls = [depth, first_looks, scant_lots, look_paper, lambda book, menu, claim: settles(book, menu, claim, None)]

    def test_in_turn(self):
        for call in self.calls:
            self.refuses_wrong_books(lambda book, call=call: call(book, None, None))
            for thing in OTHERS + [(FAR[0],) * 4, [FAR[0]]]:
                self.refused(BadLook, {"given": thing}, call, BOOK, thing, None)
            for thing in OTHERS + [(), ("level", 3, 0), ("between", 1, 1, 0)]:
                self.refused(BadLook, {"given": thing}, call, BOOK, (("level", 0, 1), thing, None), None)
                self.refused(BadLook, {"given": thing}, call, BOOK, (("level", 0, 1),), thing)
            three = (("between", 0, 1, 3), ("between", 0, 2, 3), ("between", 1, 2, 0))
            self.refused(BadLook, {"given": three}, call, BOOK, three, None)
            self.refused(BadLook, {"given": three[2]}, call, BOOK, three[:2], three[2])
        self.refuses_wrong_books(lambda book: claim_word(book, None), lambda book: all_answers(book, None))
        for thing in OTHERS + [("hour", 0, (2,))]:
            self.refused(BadLook, {"given": thing}, claim_word, BOOK, thing)
            self.refused(BadLook, {"given": thing}, all_answers, BOOK, (thing,))

    def test_trees(self):
        for thing in OTHERS + [(0, True), (1, True, False), (-1, True, False), (True, True, False), (0, 0, True), (0, None, True), [0, True, False]]:
            if type(thing) is not bool:
                held = (0, True, thing)
                self.refused(BadTree, {"given": thing}, settles, WRONG, (("level", 0, 1),), ("level", 0, 1), thing)
                self.refused(BadTree, {"given": held}, settles, WRONG, (("level", 0, 1),), ("level", 0, 1), held)

    def test_wrong_books(self):
        for call in (depth, first_looks, scant_lots, look_paper):
            self.refused(Wrong, {"number": 1}, call, WRONG, (), ("level", 0, 1))
        self.refused(Wrong, {"number": 1}, settles, WRONG, (), ("level", 0, 1), True)
        self.refused(Wrong, {"number": 1}, all_answers, WRONG, ())
        self.refused(Wrong, {"number": 1}, claim_word, WRONG, ("level", 0, 1))
        # Wrong is due ahead of TooMany.
        none = (TEN[0], TEN[1], TEN[2][:3] + (entry((0, 0), heard=99),))
        self.refused(Wrong, {"number": 3}, depth, none, FAR, ("level", 2, 1))
        self.refused(Wrong, {"number": 3}, all_answers, none, FAR + (("level", 2, 1),)[:0])


if __name__ == "__main__":
    unittest.main()
