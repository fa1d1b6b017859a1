import unittest

from lockkeeper import errors
from tests.plain import OTHERS

FIELDS = {
    "BadLock": ("part",), "BadStand": ("given",), "BadHour": ("given",), "BadCourse": ("number",),
    "BadWants": ("part",), "BadWay": ("number",), "BadKnot": ("given",), "BadLot": ("given",),
    "BadNumber": ("given",), "BadPaper": ("part",), "BadClock": ("part",), "BadToll": ("part",),
    "BadBook": ("place",), "BadHistory": ("part",), "BadState": ("given",), "BadSets": ("given",),
    "BadBound": ("given",), "BadDuty": ("given",), "BadGap": ("given",), "BadBunch": ("given",),
    "BadNote": ("given",), "BadLook": ("given",), "BadTree": ("given",), "BadAnswers": ("given",),
    "BadRounds": ("part",), "BadTask": ("part",), "BadPlan": ("number",), "BadCase": ("given",),
    "BadEntry": ("given",), "BadDeed": ("part",), "BadText": ("line", "word"),
}
BESIDE = {"Wrong": (ValueError, "number"), "Nothing": (LookupError, "given"), "TooMany": (OverflowError, "most")}


class Errors(unittest.TestCase):

    def test_each_class_stands_straight_under_the_told_one(self):
        self.assertEqual(errors.LockError.__bases__, (ValueError,))
        for name in FIELDS:
            self.assertEqual(getattr(errors, name).__bases__, (errors.LockError,), name)
        for name, (base, _) in BESIDE.items():
            self.assertEqual(getattr(errors, name).__bases__, (base,), name)
            self.assertFalse(issubclass(getattr(errors, name), errors.LockError))

    def test_no_other_classes(self):
        names = {name for name, thing in vars(errors).items() if isinstance(thing, type)}
        self.assertEqual(names, {"LockError", *FIELDS, *BESIDE})

    def test_each_argument_is_a_field(self):
        rows = [(name, fields) for name, fields in FIELDS.items()]
        rows += [(name, (field,)) for name, (_, field) in BESIDE.items()]
        for name, fields in rows:
            for thing in OTHERS + [10 ** 5000, (1, (2, [3]))]:
                things = [thing, [thing]][:len(fields)]
                for made in (getattr(errors, name)(*things), getattr(errors, name)(**dict(zip(fields, things)))):
                    for field, worth in zip(fields, things):
                        self.assertIs(getattr(made, field), worth)

    def test_none_is_made_of_another_number_of_things(self):
        for name, fields in FIELDS.items():
            for things in (fields[1:], fields + ("more",)):
                with self.assertRaises(TypeError):
                    getattr(errors, name)(*things)


if __name__ == "__main__":
    unittest.main()
