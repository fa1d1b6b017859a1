import random
import unittest

from lockkeeper.errors import BadBook, BadEntry, BadNumber, BadText
from lockkeeper.histories import book_paper
from lockkeeper.texts import book_text, is_thing, read_book, read_row, read_thing, row_text, thing_text
from tests import plaintexts
from tests.asking import Asking
from tests.plain import OTHERS, variants
from tests.somebooks import BIG, GREAT, SMALL, entry

BOOK = ((2, 1, 1, 1), ((3, 4), 1, 0), (entry(heard=5, signs=("x", "z")), entry((0, 12), 99, 1, (0, 2), 0, (0, 1, 2, 0), ("a",)), entry((1, 1))))
TEXT = "lock 2 1 1 1\nclock 3,4 1 0\n- 5 - - - - xz\n0:12 99 1 0:2 0 0.1.2.0 a\n1:1 - - - - - -"
SIGNS = " \n-,.:0123456789abclockz+~()"
OTHER_STRINGS = [thing for thing in OTHERS if not isinstance(thing, str)]


def spoilt(chance, text):
    """A text with one sign otherwise."""
    at = chance.randrange(len(text) + 1)
    return chance.choice((text[:at] + chance.choice(SIGNS) + text[at:], text[:at] + text[at + 1:], text[:at] + chance.choice(SIGNS) + text[at + 1:],
                          text[:at], text[at:]))


def mixed(chance, text, others):
    """A text with one word, or one row, otherwise."""
    rows = [row.split(" ") for row in text.split("\n")]
    at = chance.randrange(len(rows))
    word = chance.choice(others)
    place = chance.randrange(len(rows[at]))
    kind = chance.randrange(5)
    if kind < 2:
        rows[at][place] = word
    elif kind == 2:
        rows[at].insert(place, word)
    elif kind == 3:
        rows.insert(at, rows[chance.randrange(len(rows))])
    else:
        del rows[at]
    return "\n".join(map(" ".join, rows))


WORDS = ["", "-", "0", "1", "00", "01", "-1", "12", "13", "25", "99", "100", "9" * 31, "1" + "0" * 31, str(BIG), "lock", "clock", "0:1", "1:0", "0:13", "0:12",
         "12:12", "0:1:2", "1,2", "1,", ",1", "1,,2", "1,25", ",".join("1" * 12), ",".join("1" * 13), "0.0.0.0", "2.2.2.2", "3.0.0.0", "0.0.0", "0.0.0.0.0", "0.0.0.00",
         "a", "ab", "ba", "aa", "abcd", "A", "a1", "+1", " ", "1 ", "0:01", "1:"]


class Books(Asking):

    def test_one_text(self):
        self.told(TEXT, book_text(book=BOOK))
        self.told(BOOK, read_book(text=TEXT))

    def test_there_and_back(self):
        for book in SMALL + GREAT + [BOOK]:
            text = book_text(book)
            self.told(book, read_book(text))
            self.told(book, plaintexts.read_book(text))
            for row, written in zip(book[2], text.split("\n")[2:]):
                self.told(written, row_text(row))
                self.told(row, read_row(written))

    def read_alike(self, text):
        plain = plaintexts.read_book(text)
        if len(plain) == 3:
            self.told(plain, read_book(text))
            self.told(text, book_text(plain))
        else:
            self.refused(BadText, {"line": plain[0], "word": plain[1]}, read_book, text)
        return plain if len(plain) == 2 else None

    def test_with_one_sign_otherwise(self):
        chance = random.Random(90)
        places = set()
        for book in SMALL[:60] + GREAT + [BOOK] * 10:
            text = book_text(book)
            for _ in range(25):
                places.add(self.read_alike(spoilt(chance, text)))
        self.assertGreater(len(places), 20)

    def test_with_one_word_or_row_otherwise(self):
        chance = random.Random(91)
        places = set()
        for book in SMALL[:60] + GREAT + [BOOK] * 10:
            text = book_text(book)
            for _ in range(40):
                places.add(self.read_alike(mixed(chance, text, WORDS)))
        self.assertLessEqual({None, (1, 0), (2, 0), (1, 1), (2, 2), (3, 0), (3, 1), (4, 6), (5, 7)}, places)

    def test_places(self):
        first, second, third = TEXT.split("\n")[:3]
        for text, line, word in [
            ("", 1, 0), (first, 2, 0), (f"{first}\n", 2, 0), (f"{first}\n{second}", 3, 0), (f"{first}\n{second}\n", 3, 0), (TEXT + "\n", 6, 0),
            ("\n" + TEXT, 1, 0), (" " + TEXT, 1, 0), (TEXT + " ", 5, 0), (TEXT.replace("lock 2", "lock  2"), 1, 0), ("Lock 2 1 1 1", 1, 1),
            ("lock 02 1 1 1", 1, 2), ("lock 2 1 1 ", 1, 5), (" 2 1 1 1", 1, 1), ("lock -1 1 1 1", 1, 2), ("lock 1 " + "1" * 32 + " x 1", 1, 3),
            (f"{first}\nclock 1,, 0 0", 2, 2), (f"{first}\nclock  0 0", 2, 2), (f"{first}\nclock 1 x 00", 2, 3), (f"{first}\nclock 1 0 00", 2, 4),
            # What is written as told, but makes no BOOK.
            ("lock 2 1 1 3\nclock 25 0 0\n- - - - - - cba", 1, 0), ("lock " + "9" * 31 + f" 1 1 1\n{second}\n{third}", 1, 0), (f"lock 2 0 1 1\n{second}\n{third}", 1, 0),
            (f"{first}\nclock 25 0 0\n- - - - - - cba", 2, 0), (f"{first}\nclock 1 0 25\n{third}", 2, 0), (f"{first}\n{second}\n- - - - - - cba", 3, 0),
            (f"{first}\n{second}\n{third}\n0:1 - 3 - - - -\n- - - - - - -", 4, 0), (f"{first}\n{second}\n0:1 - - - - - -", 3, 0),
            (f"{first}\n{second}\n{third}\n- - - - - - -", 4, 0), (f"{first}\n{second}\n- - - 0:0 - - -", 3, 0), (f"{first}\n{second}\n- - - - - 0.0.0.0 -", 3, 0),
            (f"{first}\n{second}\n{third}" + "\n12:12 - - - - - -" * 6, 9, 0), (f"{first}\n{second}\n{third}" + "\n0:0 - - - - - -" * 6 + "\n1:0 - - - - - -", 10, 0),
            (f"{first}\n{second}\n{third}" + "\n0:0 - - - - - -" * 9, 9, 0), (f"{first}\n{second}\n{third}" + "\n0:12 - - - - - -" * 3, 6, 0),
            # The words of all rows come first.
            ("lock 2 1 1 3\nclock 25 0 0\n- - - - - - cba\n- - - - - -", 4, 0), ("lock 2 1 1 3\nclock 25 0 0\n- - - - - - cba\n- - - - - - A", 4, 7),
        ]:
            self.refused(BadText, {"line": line, "word": word}, read_book, text)
            self.assertEqual(plaintexts.read_book(text), (line, word))

    def test_edges(self):
        six = (entry(),) + (entry((0, 4)),) * 4 + (entry((8, 8)),)
        book = ((BIG, BIG, BIG, 2), ((24,) * 12, 24, 24), six)
        self.told(book, read_book(book_text(book)))
        self.refused(BadText, {"line": 8, "word": 0}, read_book, book_text(book).replace("8:8", "8:9"))
        self.refused(BadText, {"line": 9, "word": 0}, read_book, book_text(book) + "\n0:0 - - - - - -")

    def test_wrong_arguments(self):
        self.refuses_wrong_books(book_text)
        for thing in OTHER_STRINGS:
            for call in (read_book, read_row, read_thing):
                self.refused(BadText, {"line": 0, "word": 0}, call, thing)


class Rows(Asking):

    def test_rows_that_are_no_entries(self):
        most = 10 ** 31 - 1
        for row, text in [((None,) * 6 + ((),), "- - - - - - -"), (((5, 3), most, most, (9, 1), most, (most, 0, 3, 0), ("z", "a", "z", "b")), f"5:3 {most} {most} 9:1 {most} {most}.0.3.0 zazb")]:
            self.told(text, row_text(entry=row))
            self.told(row, read_row(text=text))

    def test_what_no_row_writes(self):
        row = ((0, 1), 2, 3, (0, 1), 1, (0, 0, 0, 0), ("a",))
        for thing in OTHERS + [row[:6], row + (0,), list(row)]:
            self.refused(BadEntry, {"given": thing}, row_text, thing)
        wrong = {0: [(0,), (0, 1, 2), [0, 1], (0, None), (-1, 0), (True, 1), (0, 10 ** 31), 0, ""], 1: [-1, 10 ** 31, True, "1", (1,)],
                 5: [(0, 0, 0), (0, 0, 0, 0, 0), (0, 0, 0, -1), (0, 0, 0, False), 0], 6: [None, "a", ("ab",), ("",), ("A",), (0,), ["a"], (None,)]}
        wrong.update({2: wrong[1], 4: wrong[1], 3: wrong[0]})
        for at, things in wrong.items():
            for thing in things + [other for other in OTHERS if other is not None]:
                given = row[:at] + (thing,) + row[at + 1:]
                self.refused(BadEntry, {"given": given}, row_text, given)

    def test_against_the_plain_reading(self):
        chance = random.Random(92)
        told = {True: 0, False: 0}
        for book in SMALL:
            for row in book[2]:
                text = row_text(row)
                for text in [text] + [spoilt(chance, text) for _ in range(6)] + [mixed(chance, text, WORDS) for _ in range(6)]:
                    wrong = plaintexts.wrong_word(text, plaintexts.ENTRY)
                    if wrong is None:
                        self.told(plaintexts.septuple(text), read_row(text))
                        self.told(text, row_text(read_row(text)))
                    else:
                        self.refused(BadText, {"line": 1, "word": wrong}, read_row, text)
                    told[wrong is None] += 1
        self.assertGreater(min(told.values()), 300)

    def test_places(self):
        for text, word in [("", 0), (" ", 0), ("- - - - - -", 0), ("- - - - - - - -", 0), ("      ", 1), ("- - - - - - ", 7), (" - - - - - -", 1), ("- - - - - - -\n", 7),
                           ("-\n - - - - - -", 1), ("0 - - - - - -", 1), ("0:1 -- - - - - -", 2), ("0:1 1 -1 - - - -", 3), ("0:1 1 1 1 - - -", 4), ("0:1 1 1 - 01 - -", 5),
                           ("0:1 1 1 - 1 0.0.0 -", 6), ("0:1 1 1 - 1 - a-", 7)]:
            self.refused(BadText, {"line": 1, "word": word}, read_row, text)


class Things(Asking):

    def some(self):
        things = [0, -1, 7, 10 ** 31 - 1, 1 - 10 ** 31, None, True, False, "a", "abcdefghijkl", (), ((),), (None, True), (1, (2, ("x",)), ())]
        return things + [book_paper(book) for book in SMALL[:20]] + [GREAT[0], SMALL[5]]

    def test_there_and_back(self):
        texts = {}
        for thing in self.some():
            text = thing_text(thing=thing)
            self.assertEqual(text, plaintexts.thing_text(thing))
            self.told(thing, read_thing(text=text))
            self.assertIs(is_thing(value=thing), True)
            self.told(thing, texts.setdefault(text, thing))
        self.told("(1 (-2 . ~) () abc +)", thing_text((1, (-2, None, False), (), "abc", True)))

    def test_what_is_no_thing(self):
        wrong = [10 ** 31, -10 ** 31, "abcdefghijklm", "", "A", "a b", "a1", [1], {}, 1.0, b"ab", [], object(), int]
        for thing in wrong:
            for held in (thing, (thing,), (1, (2, thing))):
                self.assertIs(is_thing(held), False)
                self.refused(BadNumber, {"given": held}, thing_text, held)
        for thing in OTHERS:
            self.assertIs(is_thing(thing), plaintexts.is_thing(thing))

    def test_how_deep(self):
        thing = 5
        for deep in range(30):
            self.assertIs(is_thing(thing), deep <= 20)
            if deep <= 20:
                self.told(thing, read_thing(thing_text(thing)))
            else:
                self.refused(BadNumber, {"given": thing}, thing_text, thing)
                self.refused(BadText, {"line": 1, "word": 0}, read_thing, plaintexts.thing_text(thing))
            thing = (thing,)
        thing = ()
        for deep in range(22):
            self.assertIs(is_thing(thing), deep <= 20)
            self.assertEqual(plaintexts.read_thing(plaintexts.thing_text(thing)) != [], deep <= 20)
            if deep > 20:
                self.refused(BadText, {"line": 1, "word": 0}, read_thing, plaintexts.thing_text(thing))
            else:
                self.told(thing, read_thing(thing_text(thing)))
            thing = (thing,)
        for text in ("(" * 9000 + ")" * 9000, "(" * 9000, "(1 " * 3000 + ")" * 3000, ")" * 9000):
            self.refused(BadText, {"line": 1, "word": 0}, read_thing, text)

    def test_how_many(self):
        for thing, worth in [((1,) * 5999, True), ((1,) * 6000, False), (((),) * 5999, True), (((1,) * 2999, (1,) * 2998), True), (((1,) * 2999, (1,) * 2999), False), ((((),),) * 3000, False), ((((),),) * 2999, True)]:
            self.assertIs(is_thing(thing), worth)
            text = plaintexts.thing_text(thing)
            if worth:
                self.told(text, thing_text(thing))
                self.told(thing, read_thing(text))
            else:
                self.refused(BadNumber, {"given": thing}, thing_text, thing)
                self.refused(BadText, {"line": 1, "word": 0}, read_thing, text)

    def test_with_one_sign_otherwise(self):
        chance = random.Random(93)
        told = {True: 0, False: 0}
        for thing in self.some() * 2:
            text = thing_text(thing)
            for _ in range(40):
                other = spoilt(chance, text)
                plain = plaintexts.read_thing(other)
                if plain:
                    self.told(plain[0], read_thing(other))
                    self.told(other, thing_text(plain[0]))
                else:
                    self.refused(BadText, {"line": 1, "word": 0}, read_thing, other)
                told[plain != []] += 1
        self.assertGreater(min(told.values()), 300)

    def test_with_one_thing_otherwise(self):
        for book in SMALL[:6]:
            for thing in variants(book):
                worth = plaintexts.is_thing(thing)
                self.assertIs(is_thing(thing), worth)
                if worth:
                    self.told(thing, read_thing(thing_text(thing)))

    def test_texts_that_are_none(self):
        for text in ["", " ", "(", ")", "( )", "( 1)", "(1 )", "(1  2)", "1 2", "(1)(2)", "(1) (2)", "1)", "(1", "-0", "00", "01", "-01", "--1", "+1", "++", "..", "~~", "a1", "1a", "A",
                     "a" * 13, "1" * 32, "-" + "1" * 32, "(1)2", "2(1)", "()()", "\n", "1\n", "(1\n2)", "-", "(-)", "None", "(1,2)"]:
            self.assertEqual(plaintexts.read_thing(text), [])
            self.refused(BadText, {"line": 1, "word": 0}, read_thing, text)


if __name__ == "__main__":
    unittest.main()
