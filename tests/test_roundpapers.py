import random
import unittest

from lockkeeper.errors import BadPaper, BadRounds
from lockkeeper.roundpapers import check_ever, check_pace, need_rounds
from lockkeeper.rounds import ever_paper, least_pace_paper, most_pace_paper, most_rounds
from tests import plainbooks
from tests.asking import Asking
from tests.plain import OTHERS, variants
from tests.plainrounds import judge_ever, judge_pace
from tests.somebooks import BIG, CLOCK, ONE, entry
from tests.somerounds import rounds_by_chance

FEW = [(book, again) for book, again in rounds_by_chance(80, 51, keep=0.4) if plainbooks.first_wrong(book) is None]
BOOK = (ONE, CLOCK, (entry(heard=1, level=0, boats=0),))
END = entry((0, 1), level=0)
# One boat goes down each time, from two on.
DOWN = (((1, 1, 1, 2), ((1,), 0, 0), (entry(boats=2),)), (entry((0, 9), level=0, passed=(0, 0, 0, 1)),))


class Rounds(Asking):

    def test_what_are_rounds(self):
        for thing in [(END,), (entry((0, 12)), entry((0, 12), level=2)), (entry((0, 8)),) * 2 + (entry((0, 8), level=0),),
                      (entry((0, 0), 5, 1, (0, 2), 1, (2, 2, 2, 2), ("a", "b", "c")),)]:
            self.assertIs(need_rounds(book=BOOK, thing=thing), thing)

    def test_what_are_none(self):
        for thing in OTHERS + [(), (END,) * 4, [END], END[:0]]:
            self.refused(BadRounds, {"part": "form"}, need_rounds, BOOK, thing)
        for thing in OTHERS + [(), END[:6], entry(), entry((2, 1)), entry((0, 13)), entry((0, 1), 100), entry((0, 1), level=3), entry((0, 1), boats=2),
                               entry((0, 1), marks=(1, 0)), entry((0, 1), passed=(0, 0, 0, 3)), entry((0, 1), signs=("b", "a")), list(END)]:
            self.refused(BadRounds, {"part": 0}, need_rounds, BOOK, (thing,))
            self.refused(BadRounds, {"part": 1}, need_rounds, BOOK, (entry((0, 12)), thing, entry((12, 12))))
        self.refused(BadRounds, {"part": "end"}, need_rounds, BOOK, (entry((0, 1)),))
        self.refused(BadRounds, {"part": "end"}, need_rounds, BOOK, (END, entry((12, 12)), entry((12, 12))))
        self.refused(BadRounds, {"part": "hours"}, need_rounds, BOOK, (entry((0, 12)), entry((0, 12)), END))
        self.refuses_wrong_books(lambda book: need_rounds(book, None))


class Papers(Asking):

    def test_with_one_thing_otherwise(self):
        words = {}
        chance = random.Random(52)
        for book, again in FEW[:26] + [DOWN]:
            paper = ever_paper(book, again)
            papers = list(variants(paper))
            told = self.judged_alike(judge_ever, check_ever, (book, again), [paper] + chance.sample(papers, min(60, len(papers))))
            for word in told:
                words[word] = words.get(word, 0) + told[word]
        self.assertEqual(set(words), {"ever", "until", ("bad", "ever"), ("bad", "until"), ("bad", "form")})
        self.assertGreater(min(words.values()), 9)

    def test_paces_with_one_thing_otherwise(self):
        words = {}
        chance = random.Random(53)
        for book, again in FEW[:40]:
            if most_rounds(book, again) is None:
                for call in (least_pace_paper, most_pace_paper):
                    paper = call(book, again)
                    papers = list(variants(paper))
                    papers += [paper[:5] + (rows,) for rows in variants(paper[5])] + [(paper[0], pace) + paper[2:] for pace in variants(paper[1])]
                    told = self.judged_alike(judge_pace, check_pace, (book, again), [paper] + chance.sample(papers, min(50, len(papers))))
                    for word in told:
                        words[word] = words.get(word, 0) + told[word]
        self.assertEqual(set(words), {"least", "most", ("bad", "least"), ("bad", "most"), ("bad", "form")})
        self.assertGreater(min(words.values()), 9)

    def test_other_ranks_and_heights(self):
        chance = random.Random(54)
        words = {}
        for book, again in FEW + [DOWN] * 4:
            papers, judge, check = [], judge_pace, check_pace
            if most_rounds(book, again) is None:
                paper = chance.choice((least_pace_paper, most_pace_paper))(book, again)
                for _ in range(12):
                    rows = tuple((pair, max(0, height + chance.choice((0, 1, -1, 2)))) for pair, height in paper[5])
                    papers.append(paper[:5] + (tuple(row for row in rows if chance.random() < 0.95),))
                    papers.append(paper[:5] + (tuple((pair, height + 7) for pair, height in paper[5]),))
            else:
                judge, check, paper = judge_ever, check_ever, ever_paper(book, again)
                for _ in range(12):
                    papers.append(paper[:3] + (tuple((pair, max(0, rank + chance.choice((0, 0, -1, 1)))) for pair, rank in paper[3]),))
            told = self.judged_alike(judge, check, (book, again), papers)
            for word in told:
                words[word] = words.get(word, 0) + told[word]
        self.assertLessEqual({"least", "most", "until", ("bad", "least"), ("bad", "most"), ("bad", "until")}, set(words))

    def test_pairs_that_never_come(self):
        book, again = DOWN
        self.told("until", check_ever(book, again, ever_paper(book, again)))
        history, walk, ranks = ever_paper(book, again)[1:]
        self.told((((0, 0), 0), ((0, 1), 1)), ranks)
        # REST(1) has no (0, 2), but with it each one to which it leads must be in.
        self.told("until", check_ever(book, again, ("until", history, walk, ranks + (((0, 2), 2),))))
        self.told("until", check_ever(book, again, ("until", history, walk, ranks + (((0, 2), BIG ** 3),))))
        self.refused(BadPaper, {"part": "until"}, check_ever, book, again, ("until", history, walk, ranks + (((0, 2), 1),)))
        self.refused(BadPaper, {"part": "until"}, check_ever, book, again, ("until", history, walk, ranks + (((0, 3), 9),)))
        self.refused(BadPaper, {"part": "until"}, check_ever, book, again, ("until", history, walk, ranks[1:]))
        self.refused(BadPaper, {"part": "until"}, check_ever, book, again, ("until", history, walk, (((0, 0), 1), ((0, 1), 2))))
        self.refused(BadPaper, {"part": "until"}, check_ever, book, again, ("until", history, walk[:1], ranks))

    def test_hundred_laps(self):
        lap = ((("water", 0),),)
        history = (0, (0, 0), ())
        for many in (1, 2, 100):
            for ring in (2, 100):
                self.told("ever", check_ever(book=BOOK, again=(END,), paper=("ever", history, (lap,) * many, (lap,) * ring)))
        self.refused(BadPaper, {"part": "ever"}, check_ever, BOOK, (END,), ("ever", history, (lap,) * 101, (lap,) * 2))
        self.refused(BadPaper, {"part": "ever"}, check_ever, BOOK, (END,), ("ever", history, (lap,) * 2, (lap,) * 102))
        self.refused(BadPaper, {"part": "ever"}, check_ever, BOOK, (END,), ("ever", history, (), (lap,) * 2))
        self.refused(BadPaper, {"part": "ever"}, check_ever, BOOK, (END,), ("ever", history, (lap,), ()))
        # One HOUR only: the RESIDUE is another one.
        self.refused(BadPaper, {"part": "ever"}, check_ever, BOOK, (END,), ("ever", history, (lap,), (lap,)))
        self.told("ever", check_ever(BOOK, (END,), ("ever", history, (lap,), (((),),))))

    def test_walks_of_none(self):
        book, again = (ONE, CLOCK, (entry(),)), (entry((0, 0), level=0, passed=(0, 0, 0, 1)),)
        history = (0, (2, 0), ())
        self.told("until", check_ever(book, again, ("until", history, (), ())))
        self.told("until", check_ever(book, again, ("until", history, (), (((0, 0), 5), ((1, 1), 0)))))
        self.refused(BadPaper, {"part": "until"}, check_ever, book, again, ("until", history, (((),),), ()))
        self.refused(BadPaper, {"part": "until"}, check_ever, book, again, ("until", (0, (3, 0), ()), (), ()))
        self.refused(BadPaper, {"part": "until"}, check_ever, BOOK, (END,), ("until", (0, (0, 0), ()), (), ()))

    def test_paces(self):
        history = (0, (0, 0), ())
        lap, none = ((("water", 0),),), ((),)
        rows = (((0, 0), 0), ((1, 0), 0))
        again = (END,)
        self.told("least", check_pace(book=BOOK, again=again, paper=("least", (0, 1), history, (none,), (none,), (((0, 0), 0), ((0, 1), 0), ((1, 0), 0), ((1, 1), 0)))))
        pairs = ((0, 0), (0, 1), (1, 0), (1, 1))
        rows = tuple((pair, 3) for pair in pairs)
        self.told("least", check_pace(BOOK, again, ("least", (0, 1), history, (lap, lap), (none,) * 100, rows)))
        self.told("most", check_pace(BOOK, again, ("most", (1, 1), history, (lap,), (lap,) * 2, rows)))
        for pace in [(0, 2), (1, 2), (2, 2), (0, 0), (-1, 1), (1, -1), (0, True), (False, 1), (0,), (0, 1, 1), [0, 1], None, (0, None)]:
            self.refused(BadPaper, {"part": "least"}, check_pace, BOOK, again, ("least", pace, history, (none,), (none,), rows))
        # A ring that has this PACE, but others are quicker.
        self.refused(BadPaper, {"part": "least"}, check_pace, BOOK, again, ("least", (1, 1), history, (lap,), (lap,) * 2, rows))
        self.refused(BadPaper, {"part": "least"}, check_pace, BOOK, again, ("least", (1, 2), history, (none,), (lap, none, lap, none), rows))
        self.refused(BadPaper, {"part": "most"}, check_pace, BOOK, again, ("most", (0, 1), history, (none,), (none,), rows))

    def test_a_pace_with_a_divisor(self):
        book, again = ((0, 1, 1, 0), ((2, 1, 1, 2, 1, 1, 1), 0, 0), (entry(),)), (entry((1, 4), heard=2, level=0),)
        paper = least_pace_paper(book, again)
        self.told((7, 2), paper[1])
        self.told("least", check_pace(book, again, paper))
        self.assertEqual(len(paper[4]) % 2, 0)
        self.told("most", check_pace(book, again, most_pace_paper(book, again)))
        for pace in [(14, 4), (3, 1), (4, 1), (7, 1)]:
            self.refused(BadPaper, {"part": "least"}, check_pace, book, again, ("least", pace) + paper[2:])

    def test_forms(self):
        for check, words in ((check_ever, {"ever": 4, "until": 4}), (check_pace, {"least": 6, "most": 6})):
            for thing in OTHERS + [(), ("ever",), ("need", 1), (b"ever", 0, 0, 0), (None,) * 6, ["until", 0, 0, 0]]:
                self.refused(BadPaper, {"part": "form"}, check, BOOK, (END,), thing)
            for word, many in words.items():
                self.refused(BadPaper, {"part": "form"}, check, BOOK, (END,), (word,) * (many - 1))
                self.refused(BadPaper, {"part": "form"}, check, BOOK, (END,), (word,) * (many + 1))
                for thing in OTHERS:
                    self.refused(BadPaper, {"part": word}, check, BOOK, (END,), (word,) + (thing,) * (many - 1))
        for thing in OTHERS:
            self.refused(BadPaper, {"part": "ever"}, check_ever, BOOK, (END,), ("ever", (0, (0, 0), ()), thing, thing))
            self.refused(BadPaper, {"part": "ever"}, check_ever, BOOK, (END,), ("ever", (0, (0, 0), ()), (((),),), thing))

    def test_in_turn(self):
        for check in (check_ever, check_pace):
            self.refuses_wrong_books(lambda book, check=check: check(book, None, None))
            for thing in OTHERS:
                self.refused(BadRounds, {"part": "form"}, check, BOOK, thing, None)
            self.refused(BadRounds, {"part": "end"}, check, BOOK, (entry((0, 1)),), None)


if __name__ == "__main__":
    unittest.main()
