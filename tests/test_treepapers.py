import random
import unittest

from lockkeeper.errors import BadAnswers, BadLook, BadPaper, BadTree
from lockkeeper.stretches import whole_lot
from lockkeeper.treepapers import check_looks, comes_to, need_tree
from lockkeeper.trees import look_paper
from tests import plaintrees
from tests.asking import Asking
from tests.plain import OTHERS, variants
from tests.plaintrees import judge_looks
from tests.somebooks import BIG, CLOCK, FEW, GREAT, ONE, entry
from tests.somelooks import menu_by_chance
from tests import plainbooks

BOOK = (ONE, CLOCK, (entry(heard=1, boats=0), entry((0, 1)), entry((1, 1), level=2)))
MENU = (("level", 0, 1), ("boats", 1, 1))
CLAIM = ("between", 0, 2, 2)
TREE = (1, (0, True, False), False)
RIGHT = [book for book in FEW if plainbooks.first_wrong(book) is None]


def some_papers(seed, many):
    """BOOKS, MENUS, CLAIMS and papers that hold, with few KEYS."""
    chance = random.Random(seed)
    told = []
    while len(told) < many:
        book = chance.choice(RIGHT)
        menu, claim = menu_by_chance(chance, book)
        is_open = plaintrees.claim_word(book, claim) == "open"
        if is_open or chance.random() < 0.2:
            paper = look_paper(book, menu, claim)
            if paper[0] == "alike" or 2 <= sum(map(len, paper[2])) < 12:
                told.append((book, menu, claim, paper))
    return told


class Trees(Asking):

    def test_what_is_a_tree(self):
        four = (0, (1, (0, True, False), False), True)
        for tree in (True, False, (0, True, False), (1, True, True), TREE, four, (0, four[1], four[1]), (0, True, (0, True, (0, True, True)))):
            self.assertIs(need_tree(book=BOOK, menu=MENU, thing=tree), tree)

    def test_what_is_none(self):
        five = (0, (1, (0, (0, True, False), False), False), True)
        for thing in [five, (0, True), (0, True, False, True), (2, True, False), (-1, True, False), (True, True, False), (False, True, False),
                      (0, 1, False), (0, True, 0), (0, True, None), [0, True, False], (None, True, False), (0, True, (2, True, False)), 0, 1] + OTHERS:
            if type(thing) is not bool:
                self.refused(BadTree, {"given": thing}, need_tree, BOOK, MENU, thing)
                self.refused(BadTree, {"given": thing}, comes_to, BOOK, MENU, thing, None)
        self.refused(BadTree, {"given": (0, True, False)}, need_tree, BOOK, (), (0, True, False))
        self.assertIs(need_tree(BOOK, (), False), False)

    def test_how_deep(self):
        four = (0, (1, (0, True, False), False), True)
        for five in [(0, four, True), (0, True, four), (0, (1, True, (0, (1, False, True), True)), True), (0, True, (1, (0, True, (1, True, False)), True))]:
            self.assertEqual(plaintrees.deep(five), 5)
            self.refused(BadTree, {"given": five}, need_tree, BOOK, MENU, five)
            self.assertEqual(need_tree(BOOK, MENU, five[1]), five[1])
            tables = look_paper(BOOK, MENU, ("level", 0, 0))[2]
            self.refused(BadPaper, {"part": "tree"}, check_looks, BOOK, MENU, ("level", 0, 0), ("tree", five, tables))
        for branch in (1, 2):
            whole = (0, True, True, True)[:branch] + (four,) + (0, True, True, True)[branch + 1:3]
            self.refused(BadTree, {"given": whole}, need_tree, BOOK, MENU, whole)
        told = (0, (1, (0, True, True), True), (1, True, (0, True, True)))
        self.told("tree", check_looks(BOOK, MENU, ("level", 0, 0), ("tree", told, look_paper(BOOK, MENU, ("level", 0, 0))[2])))

    def test_to_what_it_comes(self):
        for answers, worth in [((True, True), True), ((True, False), False), ((False, True), False), ((False, False), False)]:
            self.assertIs(comes_to(book=BOOK, menu=MENU, tree=TREE, answers=answers), worth)
            self.assertIs(comes_to(BOOK, MENU, True, answers), True)
        self.assertIs(comes_to(BOOK, (), False, ()), False)
        chance = random.Random(41)
        for tree in chance.sample(plaintrees.trees((0, 1), 3), 60):
            for answers in [(True, True), (True, False), (False, True), (False, False)]:
                self.assertIs(comes_to(BOOK, MENU, tree, answers), plaintrees.end_of(tree, answers))

    def test_answers(self):
        for thing in OTHERS + [(), (True,), (True, True, True), (True, 1), (0, False), (None, True), [True, True]]:
            self.refused(BadAnswers, {"given": thing}, comes_to, BOOK, MENU, TREE, thing)

    def test_in_turn(self):
        self.refuses_wrong_books(lambda book: need_tree(book, None, None), lambda book: comes_to(book, None, None, None))
        for thing in OTHERS + [(("level", 3, 0),)]:
            given = thing[0] if type(thing) is tuple else thing
            self.refused(BadLook, {"given": given}, need_tree, BOOK, thing, None)
            self.refused(BadLook, {"given": given}, comes_to, BOOK, thing, None, None)


class Papers(Asking):

    def test_with_one_thing_otherwise(self):
        words = {}
        for book, menu, claim, paper in some_papers(42, 50):
            told = self.judged_alike(judge_looks, check_looks, (book, menu, claim), [paper] + list(variants(paper)))
            for word in told:
                words[word] = words.get(word, 0) + told[word]
        self.assertEqual(set(words), {"tree", "alike", ("bad", "tree"), ("bad", "alike"), ("bad", "form")})
        self.assertGreater(min(words.values()), 20)

    def test_with_more_in_them(self):
        """Each LOT whole, further KEYS: the TREE may not tell these."""
        chance = random.Random(43)
        words = {}
        for book, menu, claim, paper in some_papers(44, 60):
            if paper[0] == "tree":
                papers = []
                for at, rows in enumerate(paper[2]):
                    keys = [key for key, _ in rows]
                    for key in keys:
                        residue = chance.randrange(len(book[1][0]))
                        told = tuple(chance.choice((0, 1)) if worth < 2 else 2 for worth in key[1])
                        since = tuple(chance.choice((0, 1, 2)) if worth >= 0 else -1 for worth in key[2])
                        more = dict(rows)
                        more[(residue, told, since)] = whole_lot(book[0])
                        papers.append(paper[:2] + (paper[2][:at] + (tuple(sorted(more.items())),) + paper[2][at + 1:],))
                    wide = tuple((key, whole_lot(book[0])) for key in keys)
                    papers.append(paper[:2] + (paper[2][:at] + (wide,) + paper[2][at + 1:],))
                    papers.append(paper[:2] + (paper[2][:at] + ((),) + paper[2][at + 1:],))
                told = self.judged_alike(judge_looks, check_looks, (book, menu, claim), papers)
                for word in told:
                    words[word] = words.get(word, 0) + told[word]
        self.assertGreater(min(words["tree"], words[("bad", "tree")]), 20)

    def test_keys_of_another_form(self):
        """Further KEYS, with one integer otherwise: they may be none of the ENTRY."""
        words = {}
        for book, menu, claim, paper in some_papers(47, 40):
            if paper[0] == "tree":
                papers = []
                for at, rows in enumerate(paper[2]):
                    for key, lot in rows:
                        for place in (1, 2):
                            for look in range(len(menu) + 1):
                                for worth in (-2, -1, 0, 1, 2, 3, 7, BIG, BIG + 1, None, (), True, "a"):
                                    part = key[place][:look] + (worth,) + key[place][look + 1:]
                                    other = (key[0], part, key[2]) if place == 1 else key[:2] + (part,)
                                    more = rows + ((other, lot),)
                                    if type(worth) is int:
                                        more = tuple(sorted({**dict(rows), other: lot}.items()))
                                    papers.append(paper[:2] + (paper[2][:at] + (more,) + paper[2][at + 1:],))
                told = self.judged_alike(judge_looks, check_looks, (book, menu, claim), papers)
                for word in told:
                    words[word] = words.get(word, 0) + told[word]
        self.assertGreater(min(words["tree"], words[("bad", "tree")]), 100)

    def test_other_trees(self):
        chance = random.Random(45)
        words = {}
        for book, menu, claim, paper in some_papers(46, 60):
            if paper[0] == "tree":
                every = plaintrees.trees(tuple(range(len(menu))), 3)
                papers = [("tree", tree, paper[2]) for tree in chance.sample(every, min(10, len(every)))]
                told = self.judged_alike(judge_looks, check_looks, (book, menu, claim), papers)
                for word in told:
                    words[word] = words.get(word, 0) + told[word]
        self.assertGreater(min(words.values()), 20)

    def test_forms(self):
        paper = look_paper(BOOK, MENU, CLAIM)
        for thing in OTHERS + [(), ("tree",), ("alike",), paper[:2], paper + (0,), ("trees",) + paper[1:], list(paper), (b"tree", 0, 0), (None, 0, 0)]:
            self.refused(BadPaper, {"part": "form"}, check_looks, BOOK, MENU, CLAIM, thing)
        for thing in OTHERS:
            self.refused(BadPaper, {"part": "tree"}, check_looks, BOOK, MENU, CLAIM, ("tree", True, thing))
            self.refused(BadPaper, {"part": "tree"}, check_looks, BOOK, MENU, CLAIM, ("tree", True, ((), thing, ())))
            self.refused(BadPaper, {"part": "alike"}, check_looks, BOOK, MENU, CLAIM, ("alike", thing, thing))

    def test_no_lot_without_stands(self):
        book = (ONE, ((1,), 0, 0), (entry(),))
        whole = whole_lot(ONE)
        self.told("tree", check_looks(book, (), ("level", 0, 0), ("tree", True, (((((0, (1,), (-1,))), whole),),))))
        rows = (((0, (0,), (-1,)), ((), ())), ((0, (1,), (-1,)), whole))
        self.refused(BadPaper, {"part": "tree"}, check_looks, book, (), ("level", 0, 0), ("tree", True, (rows,)))

    def test_books_that_are_not_right(self):
        book = (ONE, CLOCK, (entry(level=0), entry((0, 1), level=2)))
        first = tuple(((residue, (0,), (-1,)), (((0, 0),), ((0, 0),))) for residue in (0, 1))
        self.told("tree", check_looks(book, (), ("level", 0, 1), ("tree", True, (first, ()))))
        self.told("tree", check_looks(book, (), ("level", 0, 1), ("tree", False, (first, ()))))
        self.refused(BadPaper, {"part": "tree"}, check_looks, book, (), ("level", 0, 1), ("tree", True, ((), ())))
        self.refused(BadPaper, {"part": "tree"}, check_looks, book, (), ("level", 0, 1), ("tree", True, (first,)))
        self.told("tree", check_looks(book[:2] + (book[2] + (entry((0, 11)),) * 2,), (), ("level", 0, 1), ("tree", True, (first, (), (), ()))))

    def test_more_than_two_thousand_rows(self):
        clock = (tuple(range(10)), 0, 0)
        book = ((0, 1, 1, 0), clock, (entry(), entry((0, 0))))
        menu, claim = (("between", 0, 1, BIG),), ("boats", 1, 0)
        lot = (((0, 0),),)
        last = tuple(((residue, (0, 1), (-1, -1)), lot) for residue in range(10))
        first = [((residue, (2, 2), (since, -1)), lot) for residue in range(10) for since in range(200)]
        self.told("tree", check_looks(book, menu, claim, ("tree", True, (tuple(first), last))))
        first.append(((9, (2, 2), (200, -1)), lot))
        self.refused(BadPaper, {"part": "tree"}, check_looks, book, menu, claim, ("tree", True, (tuple(first), last)))

    def test_great_locks(self):
        for book in GREAT[:2]:
            claim = ("level", len(book[2]) - 1, book[0][0] // 2 + 15)
            paper = look_paper(book, (("level", 1, 1),), claim)
            self.assertEqual(check_looks(book, (("level", 1, 1),), claim, paper), paper[0])

    def test_in_turn(self):
        self.refuses_wrong_books(lambda book: check_looks(book, None, None, None))
        for thing in OTHERS:
            self.refused(BadLook, {"given": thing}, check_looks, BOOK, thing, None, None)
            self.refused(BadLook, {"given": thing}, check_looks, BOOK, MENU, thing, None)
        three = (("between", 0, 1, 3), ("between", 0, 2, 3), CLAIM)
        self.refused(BadLook, {"given": CLAIM}, check_looks, BOOK, three[:2], CLAIM, None)
        self.refused(BadLook, {"given": three}, check_looks, BOOK, three, CLAIM, None)


if __name__ == "__main__":
    unittest.main()
