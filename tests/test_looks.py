import random
import unittest

from lockkeeper.errors import BadHistory, BadLook
from lockkeeper.looks import answers_of, is_look, look_of
from tests import plainbooks
from tests.asking import Asking
from tests.plain import OTHERS
from tests.somebooks import BIG, CLOCK, FEW, ONE, SMALL, entry
from tests.somelooks import look_by_chance, menu_by_chance

BOOK = (ONE, CLOCK, (entry(), entry((0, 3)), entry((0, 2))))
HISTORY = (0, (0, 0), ((("lower", 0, 1), ("water", 1), ("water", 1)), (("water", 2), ("water", 2))))
BETWEENS = (("between", 0, 1, 3), ("between", 0, 2, 3))


class Looks(Asking):

    def test_what_is_a_look(self):
        for look in [("level", 0, 0), ("level", 2, BIG), ("boats", 1, 0), ("boats", 0, BIG), ("hour", 2, ()), ("hour", 0, (0,)), ("hour", 1, (0, 1)),
                     ("between", 0, 1, 0), ("between", 1, 2, BIG), ("between", 0, 2, 24)]:
            self.assertIs(is_look(BOOK, look), True)
            self.assertIs(is_look(book=BOOK, thing=look), True)

    def test_what_is_none(self):
        wrong = [(), ("level",), ("level", 0), ("level", 0, 0, 0), ("level", 3, 0), ("level", -1, 0), ("level", 0, -1), ("level", 0, BIG + 1),
                 ("level", True, 0), ("level", 0, True), ("boats", 3, 0), ("boats", 0, None), ("boats", 0, -1), ("hour", 0, 0), ("hour", 0, (2,)),
                 ("hour", 0, (1, 0)), ("hour", 0, (0, 0)), ("hour", 0, [0]), ("hour", 0, (True,)), ("hour", 0, (None,)), ("hour", 3, ()),
                 ("hour", 0, ("",)), ("between", 0, 0, 0), ("between", 1, 0, 0), ("between", 0, 3, 0), ("between", -1, 1, 0), ("between", 0, 1, -1),
                 ("between", 0, 1, BIG + 1), ("between", False, 1, 0), ("between", 0, True, 0), ("between", 0, 1, None), ("between", 0, 1), ("between", 0, 1, 0, 0),
                 ("passed", 0, 0), ("residue", 0, ()), (b"level", 0, 0), ["level", 0, 0], (None, 0, 0), (("level",), 0, 0)]
        for thing in OTHERS + wrong:
            self.assertIs(is_look(BOOK, thing), False)
            self.refused(BadLook, {"given": thing}, look_of, BOOK, HISTORY, thing)
            self.refused(BadLook, {"given": thing}, answers_of, BOOK, HISTORY, (("level", 0, 0), thing, None))
        # By a BOOK of one ENTRY nothing is between.
        self.assertIs(is_look((ONE, CLOCK, (entry(),)), ("between", 0, 1, 0)), False)

    def test_what_a_look_is(self):
        for look, worth in [
            (("level", 0, 0), True), (("level", 0, 1), False), (("level", 1, 1), True), (("level", 2, 2), True), (("level", 2, 3), False),
            (("level", 2, BIG), False), (("boats", 0, 1), False), (("boats", 1, 1), True), (("boats", 2, 2), False), (("boats", 2, 0), True),
            (("hour", 0, (0,)), True), (("hour", 0, (1,)), False), (("hour", 1, (1,)), True), (("hour", 2, (1,)), True), (("hour", 2, ()), False),
            (("hour", 2, (0, 1)), True), (("between", 0, 1, 3), True), (("between", 0, 1, 4), False), (("between", 1, 2, 2), True),
            (("between", 1, 2, 3), False), (("between", 0, 2, 5), True), (("between", 0, 2, 6), False), (("between", 0, 2, 0), True),
            (("between", 0, 2, BIG), False),
        ]:
            self.assertIs(look_of(book=BOOK, history=HISTORY, claim=look), worth)
            self.told((worth,), answers_of(BOOK, HISTORY, (look,)))

    def test_answers(self):
        self.told((), answers_of(book=BOOK, history=HISTORY, menu=()))
        self.told((True, False, True), answers_of(book=BOOK, history=HISTORY, menu=(("level", 0, 0), ("boats", 0, 1), ("between", 0, 2, 5))))
        self.told((True, True, True), answers_of(BOOK, HISTORY, (BETWEENS[0], ("hour", 1, (1,)), BETWEENS[1])))
        self.told((False, False, False), answers_of(BOOK, HISTORY, (("level", 0, 1),) * 3))

    def test_against_plain_ones(self):
        chance = random.Random(27)
        for book in FEW:
            if sum(row[0][1] for row in book[2][1:]) < 5:
                told = plainbooks.histories(book)
                for history, been in chance.sample(told, min(5, len(told))):
                    hours = tuple(len(course) for course in history[2])
                    menu, claim = menu_by_chance(chance, book)
                    self.told(tuple(plainbooks.look_by(been, hours, look) for look in menu), answers_of(book, history, menu))
                    self.assertIs(plainbooks.look_by(been, hours, claim), look_of(book, history, claim))

    def test_looks_by_chance_are_looks(self):
        chance = random.Random(28)
        for book in SMALL:
            self.assertIs(is_look(book, look_by_chance(chance, book)), True)


class WrongArguments(Asking):

    def test_histories(self):
        for call in (look_of, answers_of):
            for thing in OTHERS:
                self.refused(BadHistory, {"part": "form"}, call, BOOK, thing, None)
            self.refused(BadHistory, {"part": "residue"}, call, BOOK, (2,) + HISTORY[1:], None)
            self.refused(BadHistory, {"part": "stand"}, call, BOOK, (0, (3, 0), None), None)
            self.refused(BadHistory, {"part": "courses"}, call, BOOK, (0, (0, 0), ()), None)
            self.refused(BadHistory, {"part": 1}, call, BOOK, (0, (0, 0), ((("water", 2),), ())), None)
            self.refused(BadHistory, {"part": "agrees"}, call, BOOK, (0, (0, 0), ((("water", 0),) * 4, ())), None)
            self.refused(BadHistory, {"part": "agrees"}, call, (ONE, CLOCK, (entry(heard=2),) + BOOK[2][1:]), HISTORY, None)
            # Of a BOOK that is not right none agrees.
            self.refused(BadHistory, {"part": "agrees"}, call, (ONE, CLOCK, (entry(heard=9),)), (0, (0, 0), ()), None)
            self.refuses_wrong_books(lambda book, call=call: call(book, None, None))
        self.refuses_wrong_books(lambda book: is_look(book, None))

    def test_menus(self):
        for thing in OTHERS + [(("level", 0, 0),) * 4, [("level", 0, 0)], (None,) * 4]:
            self.refused(BadLook, {"given": thing}, answers_of, BOOK, HISTORY, thing)
        three = BETWEENS + (("between", 1, 2, 0),)
        self.refused(BadLook, {"given": three}, answers_of, BOOK, HISTORY, three)
        self.refused(BadLook, {"given": None}, answers_of, BOOK, HISTORY, BETWEENS + (None,))
        self.refused(BadLook, {"given": ("between", 0, 3, 0)}, answers_of, BOOK, HISTORY, BETWEENS + (("between", 0, 3, 0),))


if __name__ == "__main__":
    unittest.main()
