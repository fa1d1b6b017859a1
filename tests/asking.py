"""A test case that asks for errors by their class and their fields."""

import unittest

from lockkeeper.errors import BadBook, BadPaper
from tests.plain import same
from tests.somebooks import WRONG_BOOKS


class Asking(unittest.TestCase):

    def refused(self, error, fields, call, *args, **named):
        """Asks that the call raises just this error, with these fields."""
        with self.assertRaises(error) as held:
            call(*args, **named)
        self.assertIs(type(held.exception), error)
        for name, worth in fields.items():
            given = getattr(held.exception, name)
            self.assertTrue(given is worth or same(given, worth), (name, given, worth))

    def told(self, worth, result):
        """Asks that a result is this one, of the same kinds throughout."""
        self.assertTrue(same(worth, result), f"{result!r} is not {worth!r}")

    def refuses_wrong_books(self, *calls):
        """Asks that each call of one thing refuses all that is no BOOK."""
        for call in calls:
            for thing, place in WRONG_BOOKS:
                self.refused(BadBook, {"place": place}, call, thing)

    def judged_alike(self, judge, check, args, papers):
        """Asks that papers are judged as a plain judge does: a dict of how many were judged so."""
        told = {}
        for paper in papers:
            word = judge(*args, paper)
            told[word] = told.get(word, 0) + 1
            if isinstance(word, str):
                self.told(word, check(*args, paper))
            else:
                self.refused(BadPaper, {"part": word[1]}, check, *args, paper)
        return told
