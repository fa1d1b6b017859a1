import random
import unittest

from lockkeeper.errors import BadPaper, TooMany
from lockkeeper.notepapers import check_notes
from lockkeeper.notes import notes_paper
from tests import plainbooks
from tests.asking import Asking
from tests.plain import OTHERS, variants
from tests.plainjudges import judge_notes
from tests.somebooks import CLOCK, ONE, entry, few_notes, scaled

SOME = few_notes(40, seed=5, most_ways=80)
BOOK = (ONE, CLOCK, (entry(level=0), entry((0, 1), level=2)))
HISTORY_OF_LAST = (0, (2, 0), ((),))
HISTORY_OF_FIRST = (0, (0, 0), ((),))
NONE = (((), ()),) * 2
ROW = ((((0, 0),),) * 2,) * 2
MENDS = ((((0, "level"),), HISTORY_OF_LAST), (((1, "level"),), HISTORY_OF_FIRST))
CLASHES = ((((0, "level"), (1, "level")), (ROW, NONE)),)
SIX = (ONE, CLOCK, (entry(heard=1, level=0, boats=0), entry((0, 1), heard=1, level=0, boats=0)))


class Papers(Asking):

    def test_a_paper_holds(self):
        self.assertEqual(check_notes(book=BOOK, paper=("notes", MENDS, CLASHES)), "notes")
        self.assertEqual(judge_notes(BOOK, ("notes", MENDS, CLASHES)), "notes")

    def test_with_one_thing_otherwise(self):
        chance = random.Random(26)
        words = self.judged_alike(judge_notes, check_notes, (BOOK,), list(variants(("notes", MENDS, CLASHES))))
        for book in SOME:
            paper = notes_paper(book)
            tried = list(variants(paper))
            for word, many in self.judged_alike(judge_notes, check_notes, (book,), [paper] + chance.sample(tried, min(40, len(tried)))).items():
                words[word] = words.get(word, 0) + many
        self.assertEqual(set(words), {"notes", ("bad", "form"), ("bad", "notes")})
        self.assertTrue(min(words.values()) > 30, words)

    def test_with_a_pair_left_out_or_put_in(self):
        for book in SOME:
            _, mended, clashing = notes_paper(book)
            papers = [("notes", mended[:at] + mended[at + 1:], clashing) for at in range(len(mended))]
            papers += [("notes", mended, clashing[:at] + clashing[at + 1:]) for at in range(len(clashing))]
            everything = plainbooks.notes(book)
            papers += [("notes", mended + ((everything, mended[0][1]),), clashing), ("notes", ((everything, mended[0][1]),), clashing)]
            if clashing:
                papers += [("notes", mended, ((everything, clashing[0][1]),)), ("notes", ((),) + mended, clashing)]
            papers += [("notes", mended[::-1], clashing), ("notes", clashing, mended), ("notes", mended, clashing[::-1])]
            self.judged_alike(judge_notes, check_notes, (book,), papers)
            for at in range(len(mended)):
                self.refused(BadPaper, {"part": "notes"}, check_notes, book, papers[at])

    def test_bunches_that_are_not_least(self):
        both = ((0, "level"), (1, "level"))
        # Without both NOTES it is right, too; but then no BUNCH tells of either one.
        self.refused(BadPaper, {"part": "notes"}, check_notes, BOOK, ("notes", ((both, HISTORY_OF_FIRST),), CLASHES))
        self.refused(BadPaper, {"part": "notes"}, check_notes, BOOK, ("notes", MENDS[:1] + ((both, HISTORY_OF_FIRST),) + MENDS[1:], CLASHES))
        self.refused(BadPaper, {"part": "notes"}, check_notes, BOOK, ("notes", MENDS, ()))
        self.refused(BadPaper, {"part": "notes"}, check_notes, BOOK, ("notes", (), CLASHES))
        self.refused(BadPaper, {"part": "notes"}, check_notes, BOOK, ("notes", MENDS[:1], CLASHES))
        self.refused(BadPaper, {"part": "notes"}, check_notes, BOOK, ("notes", MENDS[::-1], CLASHES))

    def test_books_without_notes(self):
        book = (ONE, CLOCK, (entry(signs=("a",)),))
        self.assertEqual(check_notes(book, ("notes", (((), (0, (0, 0), ())),), ())), "notes")
        self.refused(BadPaper, {"part": "notes"}, check_notes, book, ("notes", (), ()))
        self.refused(BadPaper, {"part": "notes"}, check_notes, book, ("notes", (((), (0, (0, 0), ((),))),), ()))

    def test_form(self):
        for thing in OTHERS + [(), ("notes",), ("notes", ()), ("notes", MENDS, CLASHES, ()), ["notes", MENDS, CLASHES], ("wrong", MENDS, CLASHES)]:
            self.refused(BadPaper, {"part": "form"}, check_notes, BOOK, thing)
        for thing in OTHERS:
            self.refused(BadPaper, {"part": "form"}, check_notes, BOOK, (thing, MENDS, CLASHES))
            self.refused(BadPaper, {"part": "notes"}, check_notes, BOOK, ("notes", thing, CLASHES))
            self.refused(BadPaper, {"part": "notes"}, check_notes, BOOK, ("notes", MENDS, thing))
            for row in (thing, (thing, thing), (((0, "level"),), thing), (((0, thing),), HISTORY_OF_LAST), ((thing,), HISTORY_OF_LAST)):
                self.refused(BadPaper, {"part": "notes"}, check_notes, BOOK, ("notes", (row,) + MENDS[1:], CLASHES))
                self.refused(BadPaper, {"part": "notes"}, check_notes, BOOK, ("notes", MENDS, (row,)))

    def test_too_many(self):
        for thing in OTHERS + [("notes", (), ())]:
            self.refused(TooMany, {"most": 5}, check_notes, SIX, thing)
        five = (*SIX[:2], (entry(heard=1, level=0), SIX[2][1]))
        self.assertEqual(check_notes(five, notes_paper(five)), "notes")

    def test_great_books(self):
        for book in SOME[:20]:
            great = scaled(book, 10 ** 29)
            paper = notes_paper(great)
            self.assertEqual(check_notes(great, paper), "notes")
            if paper[2]:
                self.refused(BadPaper, {"part": "notes"}, check_notes, great, (paper[0], paper[1], paper[2][1:]))

    def test_wrong_books(self):
        self.refuses_wrong_books(lambda book: check_notes(book, None))


if __name__ == "__main__":
    unittest.main()
