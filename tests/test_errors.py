"""Promise [5]: the errors, their classes and what they keep."""

import unittest

from foreheads import errors
from foreheads.crowds import Crowds

from samples import any_values

WORDED = ("InvalidCrowds", "InvalidSaying", "InvalidTalk", "InvalidLine")
PLACED = ("InvalidText", "Untrue", "Refused")
KNOWN = WORDED + PLACED + ("InvalidCommand",)


class Classes(unittest.TestCase):
    def test_base(self):
        self.assertEqual(errors.KnowError.__bases__, (ValueError,))

    def test_direct_subclasses(self):
        for name in KNOWN:
            self.assertEqual(getattr(errors, name).__bases__, (errors.KnowError,), name)

    def test_lookups(self):
        self.assertEqual(errors.NoRow.__bases__, (IndexError,))
        self.assertEqual(errors.NoCrowd.__bases__, (KeyError,))

    def test_none_is_derived_from_another(self):
        names = KNOWN + ("NoRow", "NoCrowd")
        for name in names:
            for other in names:
                derived = issubclass(getattr(errors, name), getattr(errors, other))
                self.assertEqual(derived, name == other, (name, other))
        self.assertFalse(issubclass(errors.NoRow, errors.KnowError))
        self.assertFalse(issubclass(errors.NoCrowd, errors.KnowError))

    def test_all_are_defined_there(self):
        for name in KNOWN + ("KnowError", "NoRow", "NoCrowd"):
            self.assertEqual(getattr(errors, name).__module__, "foreheads.errors")


class Arguments(unittest.TestCase):
    def attributes(self):
        kept = [(getattr(errors, name), "word") for name in WORDED]
        kept += [(getattr(errors, name), "at") for name in PLACED]
        return kept + [(errors.NoRow, "at"), (errors.NoCrowd, "crowd")]

    def test_the_very_ones(self):
        for kind, name in self.attributes():
            for value in any_values() + [{"a": 1}, {1, 2}, 1.5, object(), len, self]:
                self.assertIs(getattr(kind(value), name), value)
                self.assertIs(getattr(kind(**{name: value}), name), value)

    def test_also_if_they_change(self):
        for kind, name in self.attributes():
            value = [1]
            error = kind(value)
            value.append(2)
            self.assertIs(getattr(error, name), value)
            self.assertEqual(getattr(error, name), [1, 2])

    def test_raised(self):
        for kind, name in self.attributes():
            with self.assertRaises(kind) as caught:
                raise kind(Crowds.every())
            self.assertEqual(getattr(caught.exception, name), Crowds.every())

    def test_exactly_one_argument(self):
        for kind, _ in self.attributes():
            self.assertRaises(TypeError, kind)
            self.assertRaises(TypeError, kind, 1, 2)

    def test_without_arguments(self):
        for kind in (errors.InvalidCommand, errors.KnowError):
            with self.assertRaises(errors.KnowError):
                raise kind()


if __name__ == "__main__":
    unittest.main()
