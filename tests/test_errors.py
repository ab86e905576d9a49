"""The section fewestmethods/errors.py of the interface."""

import inspect
import unittest

from fewestmethods import errors

SPECIFIED = {
    "InvalidHierarchy": ("MethodsError", ("problem", "position")),
    "InvalidName": ("MethodsError", ("value",)),
    "InvalidSuperclasses": ("MethodsError", ("value",)),
    "InvalidText": ("MethodsError", ("line",)),
    "InvalidPoint": ("MethodsError", ("value",)),
    "InvalidPoints": ("MethodsError", ("position",)),
    "InvalidCount": ("MethodsError", ("value",)),
    "InvalidBody": ("MethodsError", ("value",)),
    "InvalidMethods": ("MethodsError", ("problem", "point")),
    "InvalidReceipt": ("MethodsError", ("value",)),
    "InvalidModule": ("MethodsError", ("problem", "position")),
    "InvalidModules": ("MethodsError", ("problem", "module")),
    "InvalidLimit": ("MethodsError", ("value",)),
    "InvalidOperation": ("MethodsError", ("value",)),
    "InvalidCommand": ("MethodsError", ("value",)),
    "NotFound": ("LookupError", ("value",)),
    "NoMethod": ("LookupError", ("point",)),
    "Ambiguous": ("RuntimeError", ("point", "rivals")),
    "NoNext": ("RuntimeError", ("point",)),
    "InUse": ("RuntimeError", ("value",)),
    "NameTaken": ("RuntimeError", ("value",)),
    "Unlike": ("RuntimeError", ()),
    "NotAConflict": ("RuntimeError", ("point",)),
    "NotAThreat": ("RuntimeError", ("first", "second")),
    "Unsettled": ("RuntimeError", ("point",)),
    "NothingToUndo": ("RuntimeError", ()),
    "NothingToRedo": ("RuntimeError", ()),
    "TooMany": ("ArithmeticError", ("limit",)),
    "TooManySteps": ("ArithmeticError", ("limit",)),
}
BASES = {"LookupError": LookupError, "RuntimeError": RuntimeError, "ArithmeticError": ArithmeticError}
VALUES = [("word", 7), (None, True), ([], {}), (("a",), [("b",)]), (b"x", object()), ("", -1)]


def base_of(name):
    base = SPECIFIED[name][0]
    return errors.MethodsError if base == "MethodsError" else BASES[base]


class ErrorsTest(unittest.TestCase):
    def made_both_ways(self, name, values):
        attributes = SPECIFIED[name][1]
        error_class = getattr(errors, name)
        named = dict(zip(attributes, values))
        return [error_class(*values[: len(attributes)]), error_class(**named)]

    def test_every_error_keeps_what_it_was_given(self):
        for name, (_, attributes) in SPECIFIED.items():
            for values in VALUES:
                for error in self.made_both_ways(name, values):
                    with self.subTest(name=name, values=values):
                        self.assertEqual(sorted(vars(error)), sorted(attributes))
                        for attribute, value in zip(attributes, values):
                            self.assertIs(getattr(error, attribute), value)

    def test_arguments_stand_in_the_order_of_the_interface(self):
        for name, (_, attributes) in SPECIFIED.items():
            with self.subTest(name=name):
                parameters = list(inspect.signature(getattr(errors, name)).parameters.values())
                self.assertEqual([one.name for one in parameters], list(attributes))
                self.assertTrue(all(one.default is inspect.Parameter.empty for one in parameters))

    def test_no_other_number_of_arguments(self):
        for name, (_, attributes) in SPECIFIED.items():
            with self.subTest(name=name):
                with self.assertRaises(TypeError):
                    getattr(errors, name)(*([1] * (len(attributes) + 1)))

    def test_every_error_is_of_its_class_and_its_base_only(self):
        own = {name: getattr(errors, name) for name in SPECIFIED}
        own["MethodsError"] = errors.MethodsError
        for name in SPECIFIED:
            for error in self.made_both_ways(name, ("a", 1)):
                allowed = {name, SPECIFIED[name][0]}
                for other, other_class in own.items():
                    with self.subTest(name=name, other=other):
                        self.assertEqual(isinstance(error, other_class), other in allowed)

    def test_every_error_stands_directly_under_its_base(self):
        for name in SPECIFIED:
            with self.subTest(name=name):
                self.assertEqual(getattr(errors, name).__bases__, (base_of(name),))
        self.assertEqual(errors.MethodsError.__bases__, (ValueError,))

    def test_every_error_can_be_raised_and_caught_by_its_base(self):
        for name in SPECIFIED:
            for error in self.made_both_ways(name, (("a",), [])):
                with self.subTest(name=name):
                    with self.assertRaises(base_of(name)) as caught:
                        raise error
                    self.assertIs(caught.exception, error)
                    self.assertIsInstance(str(error), str)

    def test_methods_error_takes_a_message(self):
        for error in (errors.MethodsError("some words"), errors.MethodsError(message="some words")):
            self.assertEqual(str(error), "some words")
            self.assertIsInstance(error, ValueError)
            self.assertFalse(any(isinstance(error, getattr(errors, name)) for name in SPECIFIED))

    def test_there_are_no_other_errors(self):
        found = {name for name, value in vars(errors).items() if inspect.isclass(value)}
        self.assertEqual(found, set(SPECIFIED) | {"MethodsError"})


if __name__ == "__main__":
    unittest.main()
