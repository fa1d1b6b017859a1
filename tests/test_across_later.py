"""What holds across the later parts: LOOKS, TREES, ROUNDS and TASKS beside what the earlier parts tell."""

import random
import unittest

from lockkeeper.books import book_backwards, book_overturned, tolls_of
from lockkeeper.duties import at_once
from lockkeeper.images import image
from lockkeeper.maybes import may_boats, may_levels, may_residues, sure_things, totals
from lockkeeper.needs import least_hours
from lockkeeper.rounds import (
    ever_paper, is_right_with, least_pace, most_pace, most_rounds, rest, span, steps, turn, written)
from lockkeeper.roundpapers import check_ever
from lockkeeper.stretches import has_stand, lot_of
from lockkeeper.tables import is_right, states_ahead
from lockkeeper.tasks import fewest_hours
from lockkeeper.tolls import toll_totals, tolls_ahead, tolls_may
from lockkeeper.trees import all_answers, claim_word, depth, first_looks, look_paper, scant_lots
from lockkeeper.treepapers import check_looks
from tests.asking import Asking
from tests.somebooks import BIG, GREAT, SMALL, entry
from tests.somelooks import menu_by_chance
from tests.somerounds import rounds_by_chance
from tests.test_across import bare, less, wider

RIGHT = [book for book in SMALL + GREAT if is_right(book)]
ROUNDS = rounds_by_chance(70, 55)


def look_overturned(book, look):
    """A LOOK that is so upside down, and whether it is the contrary that it tells."""
    if look[0] != "level":
        return look, False
    return ("level", look[1], max(0, book[0][0] - look[2] + 1)), True


def look_backwards(book, look):
    last, size = len(book[2]) - 1, len(book[1][0])
    if look[0] == "between":
        return "between", last - look[2], last - look[1], look[3]
    if look[0] == "hour":
        return "hour", last - look[1], tuple(sorted(-residue % size for residue in look[2]))
    return look[0], last - look[1], look[2]


class Looks(Asking):

    def asked(self, seed):
        chance = random.Random(seed)
        for book in RIGHT:
            for _ in range(3):
                menu, claim = menu_by_chance(chance, book)
                yield book, menu, claim

    def test_upside_down(self):
        for book, menu, claim in self.asked(70):
            if book[0][0] == BIG:
                # TOP less 0, and 1, is no X any more.
                continue
            over = book_overturned(book)
            pairs = [look_overturned(book, look) for look in menu]
            other, is_contrary = look_overturned(book, claim)
            words = {"sure": "never", "never": "sure", "open": "open"} if is_contrary else {}
            word = claim_word(book, claim)
            self.told(words.get(word, word), claim_word(over, other))
            some = tuple(look for look, _ in pairs)
            answers = {tuple(worth is not turned for worth, (_, turned) in zip(row, pairs)) for row in all_answers(book, menu)}
            self.told(tuple(sorted(answers)), all_answers(over, some))
            for call in (depth, first_looks, scant_lots):
                self.told(call(book, menu, claim), call(over, some, other))

    def test_backwards(self):
        for book, menu, claim in self.asked(71):
            back, some, other = book_backwards(book), tuple(look_backwards(book, look) for look in menu), look_backwards(book, claim)
            self.told(claim_word(book, claim), claim_word(back, other))
            self.told(all_answers(book, menu), all_answers(back, some))
            for call in (depth, first_looks, scant_lots):
                self.told(call(book, menu, claim), call(back, some, other))

    def test_beside_what_is_sure(self):
        words = {}
        for book, menu, claim in self.asked(72):
            for look in menu + (claim,):
                word, number = look[:2]
                if word == "between":
                    worths = {total >= look[3] for total in totals(book, number, look[2])}
                elif word == "hour":
                    worths = {residue in look[2] for residue in may_residues(book, number)}
                elif word == "boats":
                    worths = {boats >= look[2] for boats in may_boats(book, number)}
                else:
                    worths = {level >= look[2] for pair in may_levels(book, number) for level in pair}
                told = "open" if len(worths) == 2 else "sure" if True in worths else "never"
                self.told(told, claim_word(book, look))
                words[told] = words.get(told, 0) + 1
            for number, word, worth in sure_things(book):
                if word == "residue":
                    self.told("sure", claim_word(book, ("hour", number, (worth,))))
                else:
                    self.told("sure", claim_word(book, (word, number, worth)))
                    if worth < BIG:
                        self.told("never", claim_word(book, (word, number, worth + 1)))
        self.assertGreater(min(words.values()), 50)

    def test_less_noted(self):
        chance = random.Random(73)
        for book, menu, claim in self.asked(74):
            other = wider(less(book, chance), chance)
            self.assertLessEqual(set(all_answers(book, menu)), set(all_answers(other, menu)))
            least = depth(other, menu, claim)
            if least is not None:
                # What a TREE settles by what is noted more loosely it settles by the BOOK.
                self.assertLessEqual(depth(book, menu, claim), least)
                self.told("tree", check_looks(book, menu, claim, look_paper(other, menu, claim)))

    def test_by_the_clock_alone(self):
        chance = random.Random(75)
        for book in SMALL:
            other, tolls = bare(book), tolls_of(book)
            if is_right(other):
                for _ in range(4):
                    _, claim = menu_by_chance(chance, book)
                    worths = None
                    if claim[0] == "between":
                        worths = {total >= claim[3] for total in toll_totals(tolls, claim[1], claim[2])}
                    elif claim[0] == "hour":
                        worths = {residue in claim[2] for residue in tolls_may(tolls, claim[1])}
                    if worths:
                        told = "open" if len(worths) == 2 else "sure" if True in worths else "never"
                        self.told(told, claim_word(other, claim))


class Rounds(Asking):

    def test_upside_down(self):
        for book, again in ROUNDS:
            over = book_overturned(book)
            other = book_overturned((book[0], book[1], (entry(),) + again))[2][1:]
            self.told(turn(book, again), turn(over, other))
            self.told(steps(book, again), steps(over, other))
            for many in (0, 1, 2, BIG):
                self.told(rest(book, again, many), rest(over, other, many))
            if is_right(book):
                self.told(most_rounds(book, again), most_rounds(over, other))
                if most_rounds(book, again) is None:
                    self.told(least_pace(book, again), least_pace(over, other))
                    self.told(most_pace(book, again), most_pace(over, other))

    def test_written_out(self):
        for book, again in ROUNDS:
            hours = sum(row[0][1] for row in book[2][1:])
            more = sum(row[0][1] for row in again)
            for many in (1, 2):
                if len(book[2] + again * many) <= 6 and hours + many * more <= 24 and is_right_with(book, again, many):
                    wide, first = written(book, again, many), len(book[2]) - 1
                    last = len(wide[2]) - 1
                    low, high = span(book, again, many)
                    self.assertIs(at_once(wide, ((first, last, low, low),)), True)
                    self.assertIs(at_once(wide, ((first, last, high, None),)), True)
                    self.assertIs(low > 0 and at_once(wide, ((first, last, 0, low - 1),)), False)
                    self.assertIs(high < 24 and at_once(wide, ((first, last, high + 1, None),)), False)
                    self.told("open" if low < high else "never", claim_word(wide, ("between", first, last, low + 1)))
                    pairs = tuple((residue, boats) for residue, lot in enumerate(states_ahead(wide, last)) for boats, part in enumerate(lot) if part)
                    self.told(rest(book, again, many), pairs)
                    # What goes on for ever does so from a BOOK that has them written once.
                    if is_right_with(book, again, BIG):
                        self.told(rest(book, again, many + 5), rest(wide, again, 5))
                        self.told("ever", check_ever(wide, again, ever_paper(wide, again)))

    def test_by_the_clock_alone(self):
        for book, again in ROUNDS:
            other = bare(book)
            rows = tuple((*row[:2], None, None, None, None, row[6]) for row in again)
            rows = rows[:-1] + (rows[-1][:2] + (0,) + rows[-1][3:],)
            clock, calls = tolls_of(book)
            for many in (0, 1, 2):
                wide = (clock, calls + tuple(row[:2] for row in rows) * many)
                if len(wide[1]) <= 6 and sum(call[0][1] for call in wide[1][1:]) <= 24:
                    residues = tolls_ahead(wide, len(wide[1]) - 1)
                    pairs = tuple((residue, boats) for residue in residues for boats in range(other[0][3] + 1))
                    self.told(pairs, rest(other, rows, many))

    def test_less_noted(self):
        chance = random.Random(76)
        for book, again in ROUNDS:
            loose = tuple((row[0], row[1] if chance.random() < 0.5 else None, row[2], row[3] if chance.random() < 0.5 else None,
                           row[4] if chance.random() < 0.5 else None, row[5] if chance.random() < 0.5 else None, row[6]) for row in again)
            for many in (1, 2, BIG):
                self.assertLessEqual(set(rest(book, again, many)), set(rest(book, loose, many)))
            if is_right(book) and most_rounds(book, again) is None:
                self.assertIs(most_rounds(book, loose), None)
                one, other = least_pace(book, again), least_pace(book, loose)
                self.assertLessEqual(other[0] * one[1], one[0] * other[1])


class Tasks(Asking):

    def test_one_boat_beside_its_need(self):
        for lock in [(0, 1, 1, 1), (3, 2, 1, 1), (10, 3, 2, 2), (BIG, BIG // 7, BIG // 9, 1)]:
            for place, level in (("upper", lock[0]), ("lower", 0)):
                for waiting, passed, end in [((1, 0), (1, 0, 0, 1), 0), ((0, 1), (0, 1, 1, 0), lock[0])]:
                    hours = least_hours(lock, (level, 0), (end, 0), (None, passed))
                    self.told(hours, fewest_hours((lock, place, waiting, (0, 0))))
                    lot = image(lock, lot_of(lock, ((level, 0),)), (None, passed), hours)
                    self.assertIs(has_stand(lock, lot, (end, 0)), True)

    def test_what_is_passed_is_a_need_at_least(self):
        for lock in [(0, 1, 1, 1), (3, 2, 1, 2), (2, 1, 1, 2)]:
            for above in range(3):
                for below in range(3):
                    needs = [least_hours(lock, (lock[0], 0), (end, 0), (None, (above, below, below, above))) for end in range(lock[0] + 1)]
                    self.assertLessEqual(min(needs), fewest_hours((lock, "upper", (above, below), (0, 0))))


if __name__ == "__main__":
    unittest.main()
