import random
import unittest

from lockkeeper.bookpapers import agrees
from lockkeeper.errors import BadNumber, BadRounds, Nothing, TooMany, Wrong
from lockkeeper.maybes import totals
from lockkeeper.roundpapers import check_ever, check_pace
from lockkeeper.rounds import (
    ever_paper, is_right_with, least_pace, least_pace_paper, most_pace, most_pace_paper, most_rounds, rest, span, steps,
    times_of, turn, written)
from lockkeeper.tables import is_right, states_possible
from tests import plainbooks, plainrounds
from tests.asking import Asking
from tests.plain import OTHERS
from tests.somebooks import BIG, CLOCK, ONE, TWELVE, entry, scaled
from tests.somerounds import rounds_by_chance

SOME = rounds_by_chance(110, 50)
RIGHT = [(book, again) for book, again in SOME if plainbooks.first_wrong(book) is None]
# TURNS with an A beyond 1, a B beyond 1, and both; MOST ROUNDS beside them.
TURNS = [
    ((1, 4), None, ((0, 3, 2, 0), ((0, 3, 4, 4), 1, 0), (entry(heard=3),)), (entry((3, 3), level=0),)),
    ((1, 3), None, ((2, 1, 2, 1), ((4, 1, 3), 0, 1), (entry(heard=4),)), (entry((1, 1), level=2, boats=0),)),
    ((2, 2), None, ((0, 1, 1, 2), ((0, 1, 2), 1, 1), (entry(heard=3),)), (entry((0, 2), heard=2, level=0, passed=(1, 1, 0, 0)),)),
    ((2, 3), None, ((1, 1, 1, 1), ((0, 4, 2), 1, 0), (entry(level=1, boats=0), entry((0, 1), heard=1, level=1, boats=0))),
     (entry((1, 1), level=0),)),
    # From the RESIDUE 10 to 1, to which nothing else leads, and from there to 4, 8, 0, 4, 8, 0 ..
    ((2, 3), None, ((0, 1, 1, 0), ((5, 5, 0, 0, 5, 0, 0, 0, 5, 0, 7, 0), 0, 0), (entry(heard=7),)), (entry((3, 4), heard=5, level=0),)),
    ((5, 1), None, ((1, 1, 1, 1), ((1, 3, 0, 0), 1, 1), (entry(heard=4, boats=0),)), (entry((0, 1), heard=1), entry((2, 2), level=1))),
    ((4, 1), 3, ((0, 1, 1, 2), ((0, 2, 3, 4), 1, 1), (entry(level=0, boats=0),)),
     (entry((0, 2), passed=(0, 1, 1, 0)), entry((3, 3), heard=3, level=0, boats=0))),
    ((3, 1), 2, ((1, 1, 1, 2), ((1,), 0, 0), (entry(boats=2),)), (entry((0, 9), level=0, passed=(0, 0, 0, 1)),)),
    ((2, 1), 1, ((1, 1, 1, 1), ((1,), 0, 0), (entry(boats=1),)), (entry((0, 9), level=0, passed=(0, 0, 0, 1)),)),
    ((1, 1), 0, ((1, 1, 1, 0), ((1,), 0, 0), (entry(),)), (entry((0, 9), level=0, passed=(0, 0, 0, 1)),)),
]
TURNED = [(book, again) for _, _, book, again in TURNS]
# A boat up each time; the water may wait.
BOOK = ((2, 1, 2, 1), ((1, 2), 0, 0), (entry(heard=1, level=0, boats=0),))
AGAIN = (entry((0, 4), level=2, boats=1, passed=(0, 0, 1, 0)), entry((0, 8), level=0, boats=0, passed=(0, 1, 0, 0)))


class Rounds(Asking):

    def test_against_all_laps(self):
        for book, again in SOME + TURNED:
            self.told(plainrounds.steps(book, again), steps(book=book, again=again))
            self.told(plainrounds.turn(book, again), turn(book=book, again=again))
            for many in (0, 1, 2, 3, 6):
                pairs = plainrounds.rest(book, again, many)
                self.told(pairs, rest(book=book, again=again, many=many))
                self.assertIs(is_right_with(book=book, again=again, many=many), pairs != ())

    def test_most_and_spans(self):
        mosts = {}
        for book, again in RIGHT + TURNED:
            most = plainrounds.most_rounds(book, again)
            self.told(most, most_rounds(book=book, again=again))
            mosts[most] = mosts.get(most, 0) + 1
            for many in (0, 1, 2, 5):
                told = plainrounds.span(book, again, many)
                if told is None:
                    self.refused(Nothing, {"given": many}, span, book, again, many)
                else:
                    self.told(told, span(book=book, again=again, many=many))
        self.assertLess(3, mosts[0])
        self.assertLessEqual({0, 1, 2, 3, None}, set(mosts))

    def test_paces_against_all_rings(self):
        uneven = 0
        for book, again in RIGHT + TURNED:
            most = most_rounds(book, again)
            if most is None:
                low, high = plainrounds.means(book, again)
                self.told(low, least_pace(book=book, again=again))
                self.told(high, most_pace(book=book, again=again))
                uneven += low[1] > 1 or high[1] > 1
            else:
                for call in (least_pace, most_pace, least_pace_paper, most_pace_paper):
                    self.refused(Nothing, {"given": most}, call, book, again)
        self.assertGreater(uneven, 1)

    def test_papers_hold(self):
        for book, again in RIGHT + TURNED:
            paper = ever_paper(book=book, again=again)
            most = most_rounds(book, again)
            self.told("ever" if most is None else "until", check_ever(book, again, paper))
            self.assertEqual(plainrounds.judge_ever(book, again, paper), paper[0])
            if most is None:
                for call, pace in ((least_pace_paper, least_pace), (most_pace_paper, most_pace)):
                    paper = call(book=book, again=again)
                    self.told(paper[1], pace(book, again))
                    self.told(paper[0], check_pace(book, again, paper))
                    self.assertEqual(plainrounds.judge_pace(book, again, paper), paper[0])
            else:
                self.assertEqual(len(paper[2]), most)

    def test_turns(self):
        for told, most, book, again in TURNS:
            self.told(told, turn(book, again))
            self.told(most, most_rounds(book, again))
            first, period = told
            for residue in range(len(book[1][0])):
                for boats in range(book[0][3] + 1):
                    early, later = times_of(book=book, again=again, pair=(residue, boats))
                    self.told(tuple(many for many in range(1, first) if (residue, boats) in rest(book, again, many)), early)
                    self.told(tuple(more for more in range(period) if (residue, boats) in rest(book, again, first + more)), later)

    def test_many_times(self):
        for (first, period), most, book, again in TURNS:
            for many in (BIG, BIG - 1, BIG - 2, BIG - 3, 10 ** 29 + 7):
                near = first + (many - first) % period
                self.told(rest(book, again, near), rest(book, again, many))
                self.assertIs(is_right_with(book, again, many), most is None)

    def test_what_is_told(self):
        self.told(((0, 0), (0, 0), (6, 8, 10, 12)), steps(BOOK, AGAIN)[0])
        self.told(((0, 0), (1, 0), (5, 7, 9, 11)), steps(BOOK, AGAIN)[1])
        self.assertEqual(len(steps(BOOK, AGAIN)), 4)
        self.told(((0, 0),), rest(BOOK, AGAIN, 0))
        self.told(((0, 0), (1, 0)), rest(BOOK, AGAIN, BIG))
        self.told((0, 0), span(BOOK, AGAIN, 0))
        self.told((200, 480), span(BOOK, AGAIN, 40))
        self.told((5, 1), least_pace(BOOK, AGAIN))
        self.told((12, 1), most_pace(BOOK, AGAIN))
        self.told(((), (0,)), times_of(BOOK, AGAIN, (1, 0)))
        self.told(((), ()), times_of(BOOK, AGAIN, (1, 1)))
        self.told(None, most_rounds(BOOK, AGAIN))

    def test_uneven_paces(self):
        # It strikes 2 in the END; 3 HOURS at most to the next 2, in turn 1, 2 and 3 HOURS.
        clock = ((2, 2, 1, 2, 1, 1), 0, 0)
        book, again = ((0, 1, 1, 0), clock, (entry(),)), (entry((1, 3), heard=2, level=0),)
        self.told((2, 1), least_pace(book, again))
        self.told((2, 1), most_pace(((0, 1, 1, 0), ((2, 1), 0, 0), (entry(),)), again))
        self.told((0, 1), least_pace(book, (entry((0, 3), level=0),)))
        self.told((3, 1), most_pace(book, (entry((0, 3), level=0),)))
        self.told((7, 2), most_pace(((0, 1, 1, 0), ((2, 1, 1, 2, 1, 1, 1), 0, 0), (entry(),)), (entry((1, 4), heard=2, level=0),)))

    def test_a_pace_of_nought(self):
        paper = least_pace_paper(BOOK, (entry((0, 3), level=0),))
        self.told((0, 1), paper[1])
        self.told("least", check_pace(BOOK, (entry((0, 3), level=0),), paper))
        self.told((0, 1), most_pace(BOOK, (entry((0, 0), level=0),)))

    def test_written(self):
        for book, again in SOME:
            for many in range(4):
                entries = book[2] + again * many
                hours = sum(row[0][1] for row in entries[1:])
                if len(entries) > 6:
                    self.refused(TooMany, {"most": 6}, written, book, again, many)
                elif hours > 24:
                    self.refused(TooMany, {"most": 24}, written, book, again, many)
                else:
                    wide = written(book=book, again=again, many=many)
                    self.told((book[0], book[1], entries), wide)
                    self.assertIs(is_right(wide), is_right_with(book, again, many))
                    sets = states_possible(wide, len(entries) - 1)
                    pairs = tuple((residue, boats) for residue, lot in enumerate(sets) for boats, part in enumerate(lot) if part)
                    self.told(rest(book, again, many), pairs)
                    if pairs:
                        between = totals(wide, len(book[2]) - 1, len(entries) - 1)
                        self.told(span(book, again, many), (between[0], between[-1]))

    def test_written_is_bounded(self):
        book = (ONE, CLOCK, (entry(),))
        self.refused(TooMany, {"most": 6}, written, book, (entry((0, 12), level=0),), BIG)
        self.refused(TooMany, {"most": 24}, written, book, (entry((0, 12), level=0),), 3)
        self.assertEqual(len(written(book, (entry((0, 12), level=0),), 2)[2]), 3)
        self.assertEqual(len(written(book, (entry((0, 4), level=0),), 5)[2]), 6)
        self.refused(TooMany, {"most": 6}, written, book, (entry((0, 4), level=0),), 6)

    def test_the_first_facts(self):
        for book, again in SOME + TURNED:
            leads = {}
            for pair, other, _ in steps(book, again):
                leads.setdefault(pair, []).append(other)
            for many in (1, 2, 4):
                further = {other for pair in rest(book, again, many) for other in leads.get(pair, [])}
                self.told(tuple(sorted(further)), rest(book, again, many + 1))
            pairs = len(book[1][0]) * (book[0][3] + 1)
            if is_right_with(book, again, pairs + 1):
                self.assertIs(is_right_with(book, again, BIG), True)

    def test_great_locks(self):
        for book, again in (RIGHT + TURNED)[:60]:
            times = 10 ** 29
            great, further = scaled(book, times), scaled((book[0], book[1], again), times)[2]
            self.assertLessEqual(set(rest(book, again, 3)), set(rest(great, further, 3)))
            paper = ever_paper(great, further)
            self.told(paper[0], check_ever(great, further, paper))
            if paper[0] == "ever":
                paper = most_pace_paper(great, further)
                self.told("most", check_pace(great, further, paper))
        lock = (BIG, BIG // 5, BIG // 7, 2)
        book = (lock, (TWELVE, 12, 12), (entry(),) + (entry((0, 4)),) * 5)
        again = (entry((0, 12), passed=(0, 1, 1, 0)), entry((0, 12), level=BIG // 3, passed=(1, 0, 0, 1)))
        self.told((22, 1), least_pace(book, again))
        self.told(None, most_rounds(book, again))
        # With two boats in the chamber none can come in ahead of one that goes out.
        self.assertEqual(len(rest(book, again, BIG)), 24)
        paper = least_pace_paper(book, again)
        self.told("least", check_pace(book, again, paper))

    def test_histories_with_many_times(self):
        """The HISTORY of a paper, with its WALK behind it, agrees with the BOOK that has the ROUNDS written out."""
        for book, again in RIGHT:
            _, history, walk = ever_paper(book, again)[:3]
            if walk and len(book[2] + again) <= 6 and sum(row[0][1] for row in (book[2] + again)[1:]) <= 24:
                self.assertIs(agrees(written(book, again, 1), history[:2] + (history[2] + walk[0],)), True)


class WrongArguments(Asking):

    calls = [steps, turn, most_rounds, least_pace, most_pace, ever_paper, least_pace_paper, most_pace_paper,
             lambda book, again: written(book, again, None), lambda book, again: rest(book, again, None),
             lambda book, again: is_right_with(book, again, None), lambda book, again: span(book, again, None),
             lambda book, again: times_of(book, again, None)]

    def test_in_turn(self):
        for call in self.calls:
            self.refuses_wrong_books(lambda book, call=call: call(book, None))
            for thing in OTHERS:
                self.refused(BadRounds, {"part": "form"}, call, BOOK, thing)
            self.refused(BadRounds, {"part": 1}, call, BOOK, (AGAIN[0], entry()))
            self.refused(BadRounds, {"part": "end"}, call, BOOK, (entry((12, 12)),) * 3)
            self.refused(BadRounds, {"part": "hours"}, call, BOOK, (entry((12, 12), level=0),) * 3)

    def test_numbers(self):
        wrong = (ONE, CLOCK, (entry(heard=9),))
        again = (entry((0, 1), level=0),)
        for thing in OTHERS + [-1, BIG + 1]:
            for call in (written, rest, is_right_with, span):
                self.refused(BadNumber, {"given": thing}, call, wrong, again, thing)
        self.refused(BadNumber, {"given": 41}, span, wrong, again, 41)
        for thing in OTHERS + [(2, 0), (0, 2), (-1, 0), (0, -1), (0,), (0, 0, 0), (True, 0), (0, False), [0, 0]]:
            self.refused(BadNumber, {"given": thing}, times_of, wrong, again, thing)

    def test_books_that_are_not_right(self):
        wrong = (ONE, CLOCK, (entry(level=0), entry((0, 1), level=2)))
        again = (entry((0, 1), level=0, passed=(2, 0, 0, 0)),)
        for call in (most_rounds, least_pace, most_pace, ever_paper, least_pace_paper, most_pace_paper):
            self.refused(Wrong, {"number": 1}, call, wrong, again)
        for many in (0, 1, 40):
            self.refused(Wrong, {"number": 1}, span, wrong, again, many)
            self.told((), rest(wrong, again, many))
            self.assertIs(is_right_with(wrong, again, many), False)
        self.told((1, 1), turn(wrong, again))
        self.told(((), ()), times_of(wrong, again, (0, 0)))
        self.assertEqual(len(written(wrong, again, 1)[2]), 3)
        self.told((), rest(wrong, again, BIG))

    def test_nothing(self):
        right = (ONE, CLOCK, (entry(),))
        again = (entry((0, 1), level=0, passed=(0, 0, 0, 1)),)
        self.told(1, most_rounds(right, again))
        self.refused(Nothing, {"given": 2}, span, right, again, 2)
        self.refused(Nothing, {"given": 40}, span, right, again, 40)
        self.told((1, 1), span(right, again, 1))
        self.refused(Nothing, {"given": 1}, least_pace, right, again)


if __name__ == "__main__":
    unittest.main()
