"""A test case that asks for errors by their class and their fields."""

import unittest

from tests.plain import same


class Asking(unittest.TestCase):

    def refused(self, error, fields, call, *args, **named):
        """Asks that the call raises just this error, with these fields."""
        with self.assertRaises(error) as held:
            call(*args, **named)
        self.assertIs(type(held.exception), error)
        for name, worth in fields.items():
            given = getattr(held.exception, name)
            self.assertTrue(given is worth or same(given, worth), (name, given, worth))

    def told(self, worth, result):
        """Asks that a result is this one, of the same kinds throughout."""
        self.assertTrue(same(worth, result), f"{result!r} is not {worth!r}")
