import random
import unittest

from lockkeeper.bookpapers import check_book
from lockkeeper.books import tolls_of
from lockkeeper.duties import bounds_paper, duty_paper
from lockkeeper.dutypapers import check_bounds, check_duty
from lockkeeper.errors import BadBook, BadCase, BadNumber, BadPaper, BadText, LockError, Nothing, TooMany, Wrong
from lockkeeper.histories import book_paper
from lockkeeper.judge import binder_text, case_text, judged, names, need_case, read_binder, read_case
from lockkeeper.needpapers import check_hours
from lockkeeper.needs import hours_paper
from lockkeeper.notepapers import check_notes
from lockkeeper.notes import notes_of, notes_paper
from lockkeeper.planpapers import check_plan
from lockkeeper.plans import task_paper, waits_paper
from lockkeeper.roundpapers import check_ever, check_pace
from lockkeeper.rounds import ever_paper, least_pace_paper, most_rounds
from lockkeeper.tables import is_right
from lockkeeper.tollpapers import check_keens, check_toll_totals, check_tolls
from lockkeeper.tolls import are_tolls_right, keens_paper, toll_totals, toll_totals_paper, tolls_paper
from lockkeeper.treepapers import check_looks
from lockkeeper.trees import look_paper
from tests import plaintexts
from tests.asking import Asking
from tests.plain import OTHERS, variants
from tests.somebooks import BIG, FEW, GREAT, ONE
from tests.somelooks import menu_by_chance
from tests.somerounds import rounds_by_chance
from tests.test_tasks import SMALL as TASKS

CHECKS = {"book": check_book, "bounds": check_bounds, "duty": check_duty, "keens": check_keens, "looks": check_looks, "need": check_hours,
          "notes": check_notes, "pace": check_pace, "plan": check_plan, "rounds": check_ever, "tolls": check_tolls, "totals": check_toll_totals}
MANY = {"book": 1, "bounds": 2, "duty": 2, "keens": 1, "looks": 3, "need": 4, "notes": 1, "pace": 2, "plan": 1, "rounds": 2, "tolls": 1, "totals": 3}


def plainly(case):
    """How a CASE is judged by its check itself."""
    name, args, paper = case
    try:
        return "kept", CHECKS[name](*args, paper)
    except BadPaper as bad:
        return "wrong", bad.part
    except (LockError, Wrong, Nothing, TooMany):
        return ("refused",)


def cases_of(chance, book):
    """CASES that hold, of a BOOK."""
    cases = [("book", (book,), book_paper(book))]
    if len(notes_of(book)) <= 5:
        cases.append(("notes", (book,), notes_paper(book)))
    tolls = tolls_of(book)
    cases.append(("tolls", (tolls,), tolls_paper(tolls)))
    cases.append(("keens", (tolls,), keens_paper(tolls)))
    if are_tolls_right(tolls):
        cases.append(("totals", (tolls, 0, len(book[2]) - 1), toll_totals_paper(tolls, 0, len(book[2]) - 1)))
    if is_right(book):
        menu, claim = menu_by_chance(chance, book)
        cases.append(("looks", (book, menu, claim), look_paper(book, menu, claim)))
        bounds = ((0, len(book[2]) - 1, 1, 3),) if len(book[2]) > 1 else ()
        cases.append(("bounds", (book, bounds), bounds_paper(book, bounds)))
        duty = ("a", "b", 1, chance.choice(("within", "not before")))
        cases.append(("duty", (book, duty), duty_paper(book, duty)))
    stand = (book[0][0], 0)
    cases.append(("need", (book[0], stand, (0, 0), (None, None)), hours_paper(book[0], stand, (0, 0), (None, None))))
    return cases


def some_cases():
    chance = random.Random(95)
    cases = [case for book in FEW[:24] + GREAT[:2] for case in cases_of(chance, book)]
    for book, again in rounds_by_chance(20, 56):
        if is_right(book):
            cases.append(("rounds", (book, again), ever_paper(book, again)))
            if most_rounds(book, again) is None:
                cases.append(("pace", (book, again), least_pace_paper(book, again)))
    for task in TASKS[::40]:
        cases += [("plan", (task,), task_paper(task)), ("plan", (task,), waits_paper(task))]
    return cases


CASES = some_cases()
# "not before" is no THING: it has a blank.
THINGS = [case for case in CASES if plaintexts.is_thing(case)]


class Judged(Asking):

    def test_names(self):
        self.told(tuple(sorted(CHECKS)), names())
        self.assertEqual({case[0] for case in CASES}, set(names()))

    def test_all_hold(self):
        for at in range(0, len(CASES), 12):
            binder = tuple(CASES[at:at + 12])
            self.told(tuple(plainly(case) for case in binder), judged(binder=binder))
        for case in CASES:
            (told,) = judged((case,))
            self.assertEqual(told[0], "kept")
            if case[0] == "totals":
                self.told(toll_totals(*case[1]), told[1])
            elif case[0] == "keens":
                self.told(tuple(row[0] for row in case[2][1]), told[1])
            else:
                self.told(case[2][0], told[1])

    def test_with_one_thing_otherwise(self):
        chance = random.Random(96)
        told = {}
        for case in CASES:
            args, papers = list(variants(case[1])), list(variants(case[2]))
            others = [(case[0], arg, case[2]) for arg in chance.sample(args, 4) if len(arg or "") == MANY[case[0]] and type(arg) is tuple]
            others += [(case[0], case[1], paper) for paper in chance.sample(papers, 6)]
            for other in others:
                word = plainly(other)
                self.told((word,), judged((other,)))
                told[word[0]] = told.get(word[0], 0) + 1
        self.assertGreater(min(told["kept"], told["wrong"], told["refused"]), 20)

    def test_any_paper(self):
        for case in CASES[:14]:
            for thing in OTHERS:
                self.told((("wrong", "form"),), judged(((case[0], case[1], thing),)))

    def test_what_is_refused(self):
        for name in names():
            for thing in OTHERS:
                self.told((("refused",),), judged(((name, (thing,) * MANY[name], None),)))
        book = ((2, 1, 1, 1), ((1,), 0, 0), ((None,) * 6 + ((),),) + (((0, 1),) + (None,) * 5 + ((),),) * 2)
        # TooMany is an error of this package, too.
        self.told((("refused",),), judged((("bounds", (book, ((0, 2, 0, 1),) * 3), None),)))

    def test_none_and_twelve(self):
        self.told((), judged(()))
        self.assertEqual(len(judged((CASES[0],) * 12)), 12)
        self.refused(BadCase, {"given": (CASES[0],) * 13}, judged, (CASES[0],) * 13)

    def test_what_is_no_case(self):
        for case in CASES[:20]:
            self.assertIs(need_case(thing=case), case)
        self.assertEqual(need_case(("book", (None,), None)), ("book", (None,), None))
        wrong = [(), ("book",), ("book", (None,)), ("book", (None,), None, None), ["book", (None,), None], ("Book", (None,), None), (b"book", (None,), None),
                 ("books", (None,), None), (None, (None,), None), (["book"], (None,), None), ("book", None, None), ("book", [None], None), ("book", (), None),
                 ("book", (None, None), None), ("", (), None)]
        wrong += [(name, (None,) * (MANY[name] + more), None) for name in names() for more in (-1, 1)]
        for thing in OTHERS + wrong:
            self.refused(BadCase, {"given": thing}, need_case, thing)
            self.refused(BadCase, {"given": thing}, case_text, thing)
            self.refused(BadCase, {"given": thing}, judged, (CASES[0], thing, None))
            self.refused(BadCase, {"given": thing}, binder_text, (("book", (1.0,), 0), thing, None))
        for thing in OTHERS + [[CASES[0]], (None,) * 13]:
            self.refused(BadCase, {"given": thing}, judged, thing)
            self.refused(BadCase, {"given": thing}, binder_text, thing)


class Texts(Asking):

    def test_there_and_back(self):
        self.assertTrue(len(CASES) > len(THINGS) > 100)
        for case in THINGS:
            text = case_text(case=case)
            self.told(case, read_case(text=text))
            self.assertNotIn("\n", text)
        for at in range(0, len(THINGS), 12):
            binder = tuple(THINGS[at:at + 12])
            text = binder_text(binder=binder)
            self.told("\n".join(map(case_text, binder)), text)
            self.told(binder, read_binder(text=text))
            self.told(judged(binder), judged(read_binder(text)))

    def test_edges(self):
        self.told("", binder_text(()))
        self.told((), read_binder(""))
        text = "(book (.) .)"
        self.told((("book", (None,), None),) * 12, read_binder("\n".join([text] * 12)))
        self.refused(BadText, {"line": 13, "word": 0}, read_binder, "\n".join([text] * 13))
        self.refused(BadText, {"line": 13, "word": 0}, read_binder, "\n".join([text] * 12 + ["", "x"]))
        self.refused(BadText, {"line": 12, "word": 0}, read_binder, "\n".join([text] * 11 + ["", "x"]))
        for line in range(1, 5):
            rows = [text] * 5
            rows[line - 1] = "(book (. .) .)"
            self.refused(BadText, {"line": line, "word": 0}, read_binder, "\n".join(rows + ["x"] * 9))
        self.refused(BadText, {"line": 2, "word": 0}, read_binder, text + "\n")
        self.refused(BadText, {"line": 1, "word": 0}, read_binder, "\n" + text)
        self.refused(BadText, {"line": 1, "word": 0}, read_binder, "\n")

    def test_texts_that_are_none(self):
        for text in ["", "book", "(book (.))", "(book . .)", "(book (. .) .)", "(bok (.) .)", "(book (.) .) ", " (book (.) .)", "(book (.) .", "((book) (.) .)", "(book (.)  .)",
                     "(book (.) 01)", "(book (.) .)\n(book (.) .)", "(+ (.) .)"]:
            self.refused(BadText, {"line": 1, "word": 0}, read_case, text)
            if text and "\n" not in text:
                self.refused(BadText, {"line": 2, "word": 0}, read_binder, "(book (.) .)\n" + text)
        for thing in OTHERS:
            if type(thing) is not str:
                self.refused(BadText, {"line": 0, "word": 0}, read_case, thing)
                self.refused(BadText, {"line": 0, "word": 0}, read_binder, thing)

    def test_cases_that_are_no_things(self):
        for case in CASES:
            if case not in THINGS:
                self.refused(BadNumber, {"given": case}, case_text, case)
        for thing in (1.0, "A b", [], 10 ** 31, b""):
            case = ("book", (None,), thing)
            self.refused(BadNumber, {"given": case}, case_text, case)
            self.refused(BadNumber, {"given": case}, binder_text, (CASES[0], case, ("book", (thing,), None)))
        # What is no CASE comes ahead of what is no THING.
        self.refused(BadCase, {"given": None}, binder_text, (("book", (None,), 1.0), None))
        duty = ("duty", (FEW[0], ("a", "b", 1, "not before")), ("kept", ()))
        self.refused(BadNumber, {"given": duty}, case_text, duty)

    def test_great_ones(self):
        case = ("need", ((BIG, 1, BIG, 2), (0, 0), (BIG, 0), (None, (0, 1, 1, 0))), hours_paper((BIG, 1, BIG, 2), (0, 0), (BIG, 0), (None, (0, 1, 1, 0))))
        self.told((("kept", "need"),), judged(read_binder(case_text(case))))
        with self.assertRaises(BadBook):
            check_book(ONE, None)


if __name__ == "__main__":
    unittest.main()
