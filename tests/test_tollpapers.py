import unittest

from lockkeeper.errors import BadClock, BadNumber, BadPaper, BadToll
from lockkeeper.tollpapers import (
    call_residues, check_keens, check_toll_totals, check_tolls, is_reckoning, need_tolls)
from lockkeeper.tolls import keens_paper, toll_totals_paper, tolls_paper
from tests import plaintolls
from tests.asking import Asking
from tests.plain import OTHERS, variants
from tests.sometolls import WRITTEN, tolls_by_chance

CLOCK = ((1, 5, 0), 2, 1)
TOLLS = (CLOCK, ((None, 1), ((0, 12), None), ((1, 12), 5)))
WRONG = (((1, 1, 2), 0, 0), ((None, 2), ((1, 1), 1), ((1, 1), 2), ((0, 5), None)))


def refusing(thing):
    """All calls of TOLLS with the rest wrong, too."""
    return [lambda: need_tolls(thing), lambda: is_reckoning(thing, None), lambda: call_residues(thing, None),
            lambda: check_tolls(thing, None), lambda: check_toll_totals(thing, None, None, None),
            lambda: check_keens(thing, None)]


class NeedTolls(Asking):

    def test_tolls_are_themselves(self):
        for tolls in WRITTEN + [TOLLS, (CLOCK, ((None, None),) + (((0, 4), 99),) * 5 + ())]:
            self.assertIs(need_tolls(tolls), tolls)
            self.assertIs(need_tolls(thing=tolls), tolls)

    def test_form(self):
        for thing in OTHERS + [(), (CLOCK,), TOLLS + (None,), list(TOLLS)]:
            for call in refusing(thing):
                self.refused(BadToll, {"part": "form"}, call)

    def test_the_clock(self):
        for thing, part in [(None, "form"), ((1, 0, 0), "strokes"), (((1,), 25, 25), "missed"), (((1,), 0, True), "added")]:
            for call in refusing((thing, None)):
                self.refused(BadClock, {"part": part}, call)

    def test_calls(self):
        for thing in OTHERS + [(), [(None, None)], ((None, None),) + (((0, 0), 0),) * 6, (None,) * 7]:
            for call in refusing((CLOCK, thing)):
                self.refused(BadToll, {"part": "calls"}, call)

    def test_each_call(self):
        wrong = OTHERS + [(), (None,), (None, None, None), [None, None], (None, 100), (None, -1), (None, True)]
        for thing in wrong + [((0, 0), None), ((0, 1), 5)] + [(other, None) for other in OTHERS[1:]]:
            for call in refusing((CLOCK, (thing, None))):
                self.refused(BadToll, {"part": 0}, call)
        gaps = [(0, 13), (2, 1), (-1, 0), (True, 2), (0, True), (0,), (0, 1, 2), [0, 1], ()] + OTHERS
        gaps += [(0, other) for other in OTHERS] + [(other, 5) for other in OTHERS]
        for thing in wrong + [((0, 1), other) for other in OTHERS[1:] + [-1, 100]] + [(gap, None) for gap in gaps]:
            for call in refusing((CLOCK, ((None, None), ((12, 12), None), thing, None))):
                self.refused(BadToll, {"part": 2}, call)

    def test_hours(self):
        self.assertTrue(need_tolls((CLOCK, ((None, None), ((0, 12), None), ((12, 12), None)))))
        for call in refusing((CLOCK, ((None, None), ((0, 12), None), ((0, 12), None), ((0, 1), None)))):
            self.refused(BadToll, {"part": "hours"}, call)
        self.refused(BadToll, {"part": 3}, need_tolls, (CLOCK, ((None, None),) + (((0, 12), None),) * 2 + (None,)))


class Reckonings(Asking):

    def test_against_all(self):
        for tolls in WRITTEN[:12] + list(tolls_by_chance(60)):
            right = plaintolls.reckonings(tolls)
            for reckoning in right[:40]:
                self.assertIs(is_reckoning(tolls, reckoning), True)
                self.told(tuple(plaintolls.residues(tolls, *reckoning)), call_residues(tolls, reckoning))
            tried = [other for reckoning in right[:2] + [(0, (1,) * (len(tolls[1]) - 1))] for other in variants(reckoning)]
            for value in tried:
                well = any(repr(value) == repr(reckoning) for reckoning in right)
                self.assertIs(is_reckoning(tolls, value), well, value)
                if not well:
                    self.refused(BadNumber, {"given": value}, call_residues, tolls, value)

    def test_others(self):
        for thing in OTHERS + [(other, (0, 1)) for other in OTHERS] + [(0, other) for other in OTHERS] \
                + [(0, (0, other)) for other in OTHERS] + [(0, (0, 1, 1)), (3, (0, 1)), (-1, (1, 1)), [0, (0, 1)]]:
            self.assertIs(is_reckoning(TOLLS, thing), False)
            self.refused(BadNumber, {"given": thing}, call_residues, TOLLS, thing)
        self.assertIs(is_reckoning(tolls=TOLLS, value=(0, (0, 1))), True)
        self.told((0, 0, 1), call_residues(tolls=TOLLS, reckoning=(0, (0, 1))))


class Papers(Asking):

    def judged(self, told, check, *given):
        """Asks that a paper is judged so."""
        if told[:1] == ("bad",):
            self.refused(BadPaper, {"part": told[1]}, check, *given)
        else:
            self.told(told, check(*given))
        return told[1] if told[:1] == ("bad",) else "holds"

    def test_a_reckoning(self):
        self.assertEqual(check_tolls(TOLLS, ("agrees", 0, (0, 1))), "agrees")
        self.assertEqual(check_tolls(tolls=TOLLS, paper=("agrees", 0, (0, 4))), "agrees")
        for residue in OTHERS + [3, -1]:
            self.refused(BadPaper, {"part": "residue"}, check_tolls, TOLLS, ("agrees", residue, None))
        for hours in OTHERS + [(), (0,), (0, 1, 1), (0, 0), (13, 1), (0, 13), (-1, 1), (0, True), [0, 1]]:
            self.refused(BadPaper, {"part": "hours"}, check_tolls, TOLLS, ("agrees", 0, hours))
        self.refused(BadPaper, {"part": "heard"}, check_tolls, TOLLS, ("agrees", 0, (0, 2)))
        self.refused(BadPaper, {"part": "heard"}, check_tolls, TOLLS, ("agrees", 1, (0, 3)))

    def test_out(self):
        for lots in [((2,), (0,), ()), ((0, 1, 2), (0, 1, 2), (0,), ()), ((2,), (0, 1), (), ()), ((0, 2), (0, 1), ())]:
            told = plaintolls.judge_tolls(WRONG, ("out", lots))
            self.judged(told, check_tolls, WRONG, ("out", lots))
        self.assertEqual(check_tolls(WRONG, ("out", ((2,), (0,), ()))), "out")
        self.assertEqual(check_tolls(WRONG, ("out", ((2,), (0,), (), ()))), "out")
        self.assertEqual(check_tolls((CLOCK, ((None, 99), ((0, 1), None))), ("out", ((),))), "out")
        for lots in OTHERS + [(), ((),), ((2,),), ((2,), (0,)), ((2,), ()), ((0,), (0,), ()), ((2,), (0, 0), ()),
                              ((2,), (1, 0), ()), ((2,), (0,), (), (), ()), ((2,), (0, True), ()), ((2, 3), (0,), ()),
                              ((2,), [0], ()), [(2,), (0,), ()]]:
            self.refused(BadPaper, {"part": "lots"}, check_tolls, WRONG, ("out", lots))

    def test_forms(self):
        for check, given in [(check_tolls, (TOLLS,)), (check_toll_totals, (TOLLS, 0, 2)), (check_keens, (TOLLS,))]:
            for thing in OTHERS + [(), ("agrees",), ("agrees", 0), ("agrees", 0, (0, 1), 0), ("out",), ("out", (), ()),
                                   ("totals", ()), ("totals", (), (), ()), ("keens",), ("keens", ()), ("keens", (), (), ()),
                                   ["totals", (), ()], (None, (), ()), (b"out", ()), ("other", (), ()), ("other", ())]:
                self.refused(BadPaper, {"part": "form"}, check, *given, thing)
        self.refused(BadPaper, {"part": "form"}, check_tolls, TOLLS, ("totals", (), ()))
        self.refused(BadPaper, {"part": "form"}, check_keens, TOLLS, ("totals", (), ()))
        self.refused(BadPaper, {"part": "form"}, check_toll_totals, TOLLS, 0, 2, ("keens", (), ()))

    def test_the_arguments_in_turn(self):
        for thing in OTHERS + [-1, 3, (0,)]:
            self.refused(BadNumber, {"given": thing}, check_toll_totals, TOLLS, thing, "last", None)
            self.refused(BadNumber, {"given": thing}, check_toll_totals, TOLLS, 0, thing, None)
        self.refused(BadNumber, {"given": 0}, check_toll_totals, TOLLS, 1, 0, None)
        self.refused(BadPaper, {"part": "form"}, check_toll_totals, TOLLS, 1, 1, None)

    def test_totals(self):
        tolls = (((1, 2), 0, 0), ((None, 1), ((0, 2), None), ((1, 2), 2)))
        lots = (((0, 0),), ((0, 0), (0, 2), (1, 1)), ((1, 1), (1, 3)))
        rows = ((1, 0, (0, 1)), (3, 0, (1, 2)))
        self.told((1, 3), check_toll_totals(tolls=tolls, first=0, last=2, paper=("totals", rows, lots)))
        for part, these, those in [
                ("rows", rows[::-1], lots), ("rows", rows + ((3, 0, (2, 1)),), lots), ("rows", ((2, 0, (0, 1)),), lots),
                ("rows", ((True, 0, (0, 1)),), lots), ("lots", (), None), ("lots", rows, lots[:2]), ("lots", rows, lots + ((),)),
                ("lots", rows, ((),) + lots[1:]), ("lots", rows, (lots[0], lots[1][:2], lots[2])),
                ("lots", rows, lots[:2] + (((1, -1),) + lots[2],)), ("lots", rows, lots[:2] + (lots[2][::-1],)),
                ("lots", rows, lots[:2] + (((1, 1), (1, 3), (2, 3)),)), ("sums", rows, lots[:2] + (lots[2] + ((1, 4),),)),
                ("sums", rows[:1], lots), ("sums", rows[1:], lots), ("sums", (), lots)]:
            self.refused(BadPaper, {"part": part}, check_toll_totals, tolls, 0, 2, ("totals", these, those))
        more = (lots[0] + ((1, 5),), ((0, 0), (0, 2), (0, 6), (1, 1), (1, 5), (1, 7)), ((1, 1), (1, 3), (1, 7), (1, 9)))
        self.refused(BadPaper, {"part": "sums"}, check_toll_totals, tolls, 0, 2, ("totals", rows, more))

    def test_keens(self):
        tolls = (((3, 5), 9, 9), ((None, 4),))
        rows = (((0, 1), 0, ()), ((1, 0), 1, ()))
        outs = (((0, 0), ((),)),)
        self.told(((0, 1), (1, 0)), check_keens(tolls=tolls, paper=("keens", rows, outs)))
        for part, these, those in [
                ("rows", rows[::-1], outs), ("rows", rows + rows[1:], outs), ("rows", (((0, 0), 0, ()),), outs),
                ("rows", (((0, 25), 0, ()),), outs), ("rows", (((25, 0), 0, ()),), outs),
                ("rows", (((0, True), 0, ()),), outs), ("rows", (((0, 1), 2, ()),), outs),
                ("outs", rows, (((0, 1), ((),)),)), ("outs", rows, outs * 2), ("outs", rows, (((-1, 0), ((),)),)),
                ("outs", rows, outs + (((0, 25), ((),)),)), ("outs", rows, outs + (((25, 0), ((),)),)),
                ("outs", rows, (((0, 0), ()),)), ("outs", rows, (((0, False), ((),)),)), ("outs", rows, list(outs)),
                ("least", (((0, 1), 0, ()), ((0, 2), 0, ())), outs), ("least", rows + (((2, 2), 0, ()),), ()),
                ("every", rows, ()), ("every", rows[:1], outs), ("every", (), outs), ("every", rows[1:], outs)]:
            self.refused(BadPaper, {"part": part}, check_keens, tolls, ("keens", these, those))
        # Without any KEEN all pairs are out.
        never = (((3, 5), 0, 0), ((None, 99),))
        self.told((), check_keens(never, ("keens", (), (((3, 24), ((),)), ((24, 24), ((),))))))
        self.refused(BadPaper, {"part": "every"}, check_keens, never, ("keens", (), (((24, 23), ((),)), )))

    def test_any_things_in_papers(self):
        for thing in OTHERS:
            self.refused(BadPaper, {"part": "rows"}, check_toll_totals, TOLLS, 0, 2, ("totals", (thing,), ()))
            self.refused(BadPaper, {"part": "rows"}, check_toll_totals, TOLLS, 0, 2, ("totals", ((thing, 0, (0, 1)),), ()))
            self.refused(BadPaper, {"part": "lots"}, check_toll_totals, TOLLS, 0, 2, ("totals", (), (thing, (), ())))
            self.refused(BadPaper, {"part": "lots"}, check_toll_totals, TOLLS, 0, 2, ("totals", (), ((thing,), (), ())))
            self.refused(BadPaper, {"part": "lots"}, check_toll_totals, TOLLS, 0, 2, ("totals", (), (((0, thing),), (), ())))
            self.refused(BadPaper, {"part": "rows"}, check_keens, TOLLS, ("keens", (thing,), ()))
            self.refused(BadPaper, {"part": "rows"}, check_keens, TOLLS, ("keens", ((thing, 0, (0, 1)),), ()))
            self.refused(BadPaper, {"part": "outs"}, check_keens, TOLLS, ("keens", (), (thing,)))
            self.refused(BadPaper, {"part": "outs"}, check_keens, TOLLS, ("keens", (), (((0, thing), ((),)),)))
            self.refused(BadPaper, {"part": "lots"}, check_tolls, TOLLS, ("out", (thing,)))
            self.refused(BadPaper, {"part": "lots"}, check_tolls, TOLLS, ("out", ((thing,), ())))

    def test_one_thing_otherwise(self):
        seen = {}
        for tolls in [TOLLS, WRONG, *WRITTEN[4:8], *tolls_by_chance(12, seed=2, longest=3)]:
            for paper in variants(tolls_paper(tolls)):
                part = self.judged(plaintolls.judge_tolls(tolls, paper), check_tolls, tolls, paper)
                seen[part] = seen.get(part, 0) + 1
        self.assertEqual(set(seen), {"holds", "form", "residue", "hours", "heard", "lots"})

    def test_one_thing_otherwise_in_totals(self):
        seen = {}
        for tolls in [WRONG, *WRITTEN[3:5], *tolls_by_chance(10, seed=4, longest=3)]:
            last = len(tolls[1]) - 1
            for first in {0, last // 2}:
                for paper in variants(toll_totals_paper(tolls, first, last)):
                    told = plaintolls.judge_totals(tolls, first, last, paper)
                    part = self.judged(told, check_toll_totals, tolls, first, last, paper)
                    seen[part] = seen.get(part, 0) + 1
        self.assertEqual(set(seen), {"holds", "form", "rows", "lots", "sums"})

    def test_one_thing_otherwise_in_keens(self):
        seen = {}
        for tolls in [WRONG, *WRITTEN[1:4], *tolls_by_chance(6, seed=5, longest=3)]:
            for paper in variants(keens_paper(tolls)):
                part = self.judged(plaintolls.judge_keens(tolls, paper), check_keens, tolls, paper)
                seen[part] = seen.get(part, 0) + 1
        self.assertLessEqual({"holds", "form", "rows", "outs", "every"}, set(seen))


if __name__ == "__main__":
    unittest.main()
