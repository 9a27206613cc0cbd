"""The seventeen refusals: how they are made, what they have, under what they stand."""

import unittest

from branchedhall import errors
from tests.samples import SaysNothing, SaysYes

# Each refusal, the class of Python's that it is under, its fields.
REFUSALS = (
    ("NoDeed", ValueError, ("part",)),
    ("NoText", ValueError, ("part",)),
    ("NoStates", ValueError, ("number",)),
    ("NoPaper", ValueError, ()),
    ("NoBegin", ValueError, ()),
    ("NoRow", ValueError, ("number",)),
    ("NoHouse", ValueError, ("house",)),
    ("NoHouses", ValueError, ("number",)),
    ("Barred", ValueError, ("where", "rule")),
    ("NoName", KeyError, ("name",)),
    ("NoState", LookupError, ("name",)),
    ("NoGoing", LookupError, ("name",)),
    ("NoHall", LookupError, ()),
    ("Full", OverflowError, ()),
    ("TooMany", OverflowError, ("many",)),
    ("Twin", RuntimeError, ("name",)),
    ("Busy", RuntimeError, ()),
)

PYTHONS_OWN = (
    ValueError, KeyError, IndexError, LookupError, OverflowError, ZeroDivisionError, ArithmeticError, RuntimeError,
    NotImplementedError, TypeError, AttributeError, StopIteration, OSError, UnicodeError, RecursionError,
)

VALUES = (None, -1, 0, 7, "body", "", ("ash", 3), ["ash"], {"a": 1}, SaysYes())


class Refusals(unittest.TestCase):
    def test_there_are_seventeen(self):
        found = [name for name in vars(errors) if isinstance(vars(errors)[name], type)]
        self.assertEqual(sorted(found), sorted(name for name, base, fields in REFUSALS))
        self.assertEqual(len(found), 17)

    def test_each_is_defined_here(self):
        for name, base, fields in REFUSALS:
            self.assertEqual(getattr(errors, name).__module__, "branchedhall.errors")

    def test_fields_by_places(self):
        for name, base, fields in REFUSALS:
            for start in range(len(VALUES)):
                values = [VALUES[(start + at) % len(VALUES)] for at in range(len(fields))]
                refusal = getattr(errors, name)(*values)
                for field, value in zip(fields, values):
                    self.assertIs(getattr(refusal, field), value, name)

    def test_fields_by_names(self):
        for name, base, fields in REFUSALS:
            values = {field: "value of " + field for field in reversed(fields)}
            refusal = getattr(errors, name)(**values)
            for field in fields:
                self.assertEqual(getattr(refusal, field), "value of " + field, name)

    def test_fields_are_these_alone(self):
        for name, base, fields in REFUSALS:
            refusal = getattr(errors, name)(*fields)
            self.assertEqual(sorted(vars(refusal)), sorted(fields), name)

    def test_values_are_all_wanted(self):
        for name, base, fields in REFUSALS:
            with self.assertRaises(TypeError):
                getattr(errors, name)(*fields, "one more")
            if fields:
                with self.assertRaises(TypeError):
                    getattr(errors, name)(*fields[1:])

    def test_values_of_any_kind(self):
        thing = SaysNothing()
        self.assertIs(errors.NoHouse(thing).house, thing)
        self.assertIs(errors.NoName(thing).name, thing)
        self.assertIs(errors.NoGoing(thing).name, thing)
        self.assertIn("house", str(errors.NoHouse(thing)))

    def test_under_what_they_stand(self):
        for name, base, fields in REFUSALS:
            refusal = getattr(errors, name)
            for other in PYTHONS_OWN:
                self.assertEqual(issubclass(refusal, other), issubclass(base, other), (name, other))

    def test_none_under_another(self):
        for name, base, fields in REFUSALS:
            for other, other_base, other_fields in REFUSALS:
                if name != other:
                    self.assertFalse(issubclass(getattr(errors, name), getattr(errors, other)), (name, other))

    def test_they_are_raised_and_caught(self):
        for name, base, fields in REFUSALS:
            refusal = getattr(errors, name)
            with self.assertRaises(base) as caught:
                raise refusal(*fields)
            self.assertIsInstance(caught.exception, refusal)


if __name__ == "__main__":
    unittest.main()
