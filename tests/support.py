"""What several test files use."""

import copy
import itertools
import unittest

from fewestmethods.hierarchy import Hierarchy

KINDS = [("thing", ()), ("shape", ("thing",)), ("solid", ("thing",)), ("ball", ("shape", "solid"))]

# Several superclasses, several roots, and two classes below the same pair.
WIDE = [
    ("a", ()),
    ("b", ()),
    ("c", ("a", "b")),
    ("d", ("b", "a")),
    ("e", ()),
    ("m", ("c", "d")),
    ("n", ("m", "e")),
    ("o", ("d", "e")),
]

# The names of twenty classes, a letter each.
TWENTY = "abcdefghijklmnopqrst"


class Plain:
    """An object that none of the functions knows."""


# None of these is a number, a string, a list or a tuple.
STRANGE = (None, True, False, b"a", b"thing", {}, {"a": ()}, {"thing": 1}, {"a"}, Plain(), Plain, len, Hierarchy())
NUMBERS = (0, 1, -1, 3, 10**59)
LISTS = ([], ["a"], ["thing"], [["a"]], [("a", ())], [{}], [("a",)])
TUPLES = ((), ("a",), ("thing",), ("a", ()), (("a", ()),), (["a"],), ({},), (None,), (True,))
# All of these but the last one are no names, and none is a class of KINDS or WIDE.
STRINGS = ("", " ", "A", "Thing", "thing ", " thing", "thing\n", "a b", "a1", "1", "a-b", "abcdefghi", "unknown")
NO_CLASSES = STRANGE + NUMBERS + LISTS + TUPLES + STRINGS


def hierarchies_of(names):
    """All hierarchies with these classes in this sequence."""
    choices = []
    for at in range(len(names)):
        earlier = names[:at]
        choices.append([chosen for size in range(at + 1) for chosen in itertools.combinations(earlier, size)])
    return [Hierarchy(list(zip(names, chosen))) for chosen in itertools.product(*choices)]


def is_below_by_definition(rows, name, other):
    """Point [5], read off the rows of a hierarchy."""
    return name == other or any(is_below_by_definition(rows, parent, other) for parent in dict(rows)[name])


def same(first, second):
    """Whether two values are equal and of the same kind, also inside: True is not 1."""
    if type(first) is not type(second):
        return False
    if isinstance(first, (list, tuple)):
        return len(first) == len(second) and all(same(one, two) for one, two in zip(first, second))
    return first == second


class Case(unittest.TestCase):
    """A test case that checks errors with their attributes, and results with their kinds."""

    def assert_same(self, first, second):
        self.assertTrue(same(first, second), f"{first!r} is not {second!r}")

    def assert_error(self, wanted, attributes, action, *values, **named):
        """The action raises just this class, with just these attributes, and changes no argument."""
        before = copied(values)
        with self.assertRaises(wanted) as caught:
            action(*values, **named)
        error = caught.exception
        self.assertIs(type(error), wanted)
        self.assertEqual(sorted(vars(error)), sorted(attributes))
        for name, value in attributes.items():
            self.assert_same(getattr(error, name), value)
        self.assertEqual(copied(values), before)


def copied(values):
    """Copies of the lists and dicts among the values, to see whether they stay as they were."""
    return [copy.deepcopy(value) for value in values if isinstance(value, (list, dict, tuple)) and is_plain(value)]


def is_plain(value):
    if isinstance(value, (list, tuple)):
        return all(is_plain(item) for item in value)
    if isinstance(value, dict):
        return all(is_plain(item) for item in value.values())
    return value is None or isinstance(value, (bool, int, str, bytes))
