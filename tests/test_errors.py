"""Point 8: the error classes, what stands above them, and what they keep."""

import inspect
import unittest

from markersplice import errors
from markersplice.strips import Strip
from support import any_values

BASES = {"StripError": ValueError, "Missing": KeyError, "Blocked": LookupError}

ATTRIBUTES = {
    "StripError": {
        "InvalidName": ("value",), "InvalidNumber": ("value",), "InvalidNumbers": ("value",),
        "InvalidPiece": ("value",), "InvalidMarker": ("value",), "InvalidRow": ("value",),
        "Unpaired": ("value",), "TooMany": ("total",), "InvalidStrip": ("value",),
        "InvalidText": ("value",), "InvalidWord": ("position",), "InvalidOperation": ("value",),
        "InvalidNames": ("value",), "InvalidKinds": ("value",), "InvalidList": ("value",),
        "InvalidPosition": ("value",), "DuplicateName": ("value",), "InvalidUser": ("value",),
        "InvalidWorkspace": ("value",), "InvalidLine": ("value",), "InvalidStep": ("position",),
    },
    "Missing": {"UnknownName": ("value",), "UnknownPart": ("value",), "UnknownStrip": ("value",)},
    "Blocked": {
        "NotApplicable": ("op", "blocker"), "Unreachable": ("ring", "name"),
        "Locked": ("value",), "Unmatched": ("value",), "NothingToUndo": (),
    },
}


def error_classes():
    """Each error class below a base class, with that base class and the names of its attributes."""
    for base in ATTRIBUTES:
        for name in ATTRIBUTES[base]:
            yield getattr(errors, name), getattr(errors, base), ATTRIBUTES[base][name]


class BaseClasses(unittest.TestCase):
    def test_each_base_class_stands_directly_below_its_builtin_class(self):
        for name in BASES:
            self.assertEqual(getattr(errors, name).__bases__, (BASES[name],))

    def test_each_error_class_stands_directly_below_its_base_class_alone(self):
        for error, base, _ in error_classes():
            self.assertEqual(error.__bases__, (base,), error)

    def test_no_error_class_is_of_another_kind(self):
        for error, base, _ in error_classes():
            self.assertEqual(issubclass(error, ValueError), base is errors.StripError, error)
            self.assertEqual(issubclass(error, KeyError), base is errors.Missing, error)
            self.assertEqual(issubclass(error, LookupError), base is not errors.StripError, error)
            for other in BASES:
                self.assertEqual(issubclass(error, getattr(errors, other)),
                                 getattr(errors, other) is base, error)

    def test_all_classes_are_distinct_and_are_defined_in_their_file(self):
        names = list(BASES) + [name for base in ATTRIBUTES for name in ATTRIBUTES[base]]
        self.assertEqual(len(names), 32)
        self.assertEqual(len({getattr(errors, name) for name in names}), 32)
        for name in names:
            self.assertEqual(getattr(errors, name).__name__, name)
            self.assertEqual(getattr(errors, name).__module__, "markersplice.errors")

    def test_a_base_class_is_created_with_one_string(self):
        for name in BASES:
            with self.assertRaises(BASES[name]) as caught:
                raise getattr(errors, name)("what went wrong")
            self.assertIn("what went wrong", str(caught.exception))


class Attributes(unittest.TestCase):
    def test_the_parameters_have_the_names_of_the_attributes(self):
        for error, _, attributes in error_classes():
            self.assertEqual(tuple(inspect.signature(error).parameters), attributes, error)

    def test_any_values_are_kept_by_position(self):
        values = any_values()
        for error, _, attributes in error_classes():
            for shift, value in enumerate(values):
                given = [value, values[shift - 1]][:len(attributes)]
                self.check(error(*given), attributes, given)

    def test_any_values_are_kept_by_name(self):
        values = any_values()
        for error, _, attributes in error_classes():
            for shift, value in enumerate(values):
                given = [value, values[shift - 1]][:len(attributes)]
                self.check(error(**dict(zip(attributes, given))), attributes, given)

    def test_the_names_can_be_given_in_the_other_order(self):
        one, other = ["one"], ["other"]
        self.check(errors.NotApplicable(blocker=other, op=one), ("op", "blocker"), [one, other])
        self.check(errors.Unreachable(name=other, ring=one), ("ring", "name"), [one, other])

    def check(self, error, attributes, given):
        for attribute, value in zip(attributes, given):
            self.assertIs(getattr(error, attribute), value)
        self.assertIsInstance(str(error), str)
        self.assertIsInstance(repr(error), str)

    def test_a_kept_value_is_the_original_even_after_a_change(self):
        for error, _, attributes in error_classes():
            given = [["a", {"b": []}] for _ in attributes]
            made = error(*given)
            for value in given:
                value.append("more")
                value[1]["b"].append(0)
            for attribute, value in zip(attributes, given):
                self.assertIs(getattr(made, attribute), value)
                self.assertEqual(getattr(made, attribute), ["a", {"b": [0]}, "more"])

    def test_objects_of_the_same_class_keep_values_of_their_own(self):
        for error, _, attributes in error_classes():
            first = error(*[1] * len(attributes))
            second = error(*[2] * len(attributes))
            for attribute in attributes:
                self.assertEqual((getattr(first, attribute), getattr(second, attribute)), (1, 2))

    def test_an_error_can_be_raised_and_caught_by_each_class_above_it(self):
        for error, base, attributes in error_classes():
            for above in (error, base, BASES[base.__name__]):
                with self.assertRaises(above):
                    raise error(*[None] * len(attributes))


class RaisedErrors(unittest.TestCase):
    """That what the program raises is caught by the base classes and the built-in classes."""

    def test_an_invalid_value_is_a_value_error(self):
        for above in (errors.StripError, ValueError):
            with self.assertRaises(above):
                Strip([])

    def test_a_missing_name_is_a_key_error(self):
        for above in (errors.Missing, KeyError):
            with self.assertRaises(above):
                Strip(["a"]).places("p")


if __name__ == "__main__":
    unittest.main()
