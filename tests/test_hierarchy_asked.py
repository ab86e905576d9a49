"""Hierarchies asked, points [2], [5] and [6]."""

import itertools
import unittest

import support
from fewestmethods.errors import NotFound
from fewestmethods.hierarchy import Hierarchy


def common_by_definition(rows, classes):
    """The highest common subclasses of point [6], read off the rows of a hierarchy."""
    names = [name for name, _ in rows]
    below = support.is_below_by_definition
    common = [name for name in names if all(below(rows, name, other) for other in classes)]
    return [name for name in common if not any(other != name and below(rows, name, other) for other in common)]


class AskedTest(support.Case):
    def setUp(self):
        self.kinds = Hierarchy(support.KINDS)
        self.wide = Hierarchy(support.WIDE)

    def assert_not_found(self, value, action, *values, **named):
        with self.subTest(value=value):
            self.assert_error(NotFound, {"value": value}, action, *values, **named)

    def test_names(self):
        self.assertEqual(self.kinds.names(), ["thing", "shape", "solid", "ball"])
        self.assertEqual(self.wide.names(), ["a", "b", "c", "d", "e", "m", "n", "o"])
        self.assertEqual(Hierarchy().names(), [])

    def test_has_class_of_any_value(self):
        for name in ("thing", "shape", "solid", "ball"):
            self.assertIs(self.kinds.has_class(name), True)
            self.assertIs(self.kinds.has_class(value=name), True)
            self.assertIs(Hierarchy().has_class(name), False)
        for value in support.NO_CLASSES + ("thin", "ing", "things"):
            with self.subTest(value=value):
                self.assertIs(self.kinds.has_class(value), False)

    def test_superclasses(self):
        self.assert_same(self.wide.superclasses("c"), ("a", "b"))
        self.assert_same(self.wide.superclasses("d"), ("b", "a"))
        self.assert_same(self.wide.superclasses("a"), ())
        self.assert_same(self.wide.superclasses(name="n"), ("m", "e"))

    def test_position_of(self):
        for at, name in enumerate(self.wide.names()):
            self.assert_same(self.wide.position_of(name), at)
        self.assert_same(self.kinds.position_of(name="ball"), 3)

    def test_is_at_or_below(self):
        for rows in (support.KINDS, support.WIDE):
            made = Hierarchy(rows)
            for name, other in itertools.product(made.names(), repeat=2):
                with self.subTest(name=name, other=other):
                    wanted = support.is_below_by_definition(rows, name, other)
                    self.assertIs(made.is_at_or_below(name, other), wanted)
                    self.assertIs(made.is_at_or_below(other=other, name=name), wanted)

    def test_is_at_or_below_in_words(self):
        self.assertIs(self.kinds.is_at_or_below("ball", "thing"), True)
        self.assertIs(self.kinds.is_at_or_below("thing", "ball"), False)
        self.assertIs(self.kinds.is_at_or_below("shape", "solid"), False)
        self.assertIs(self.kinds.is_at_or_below("shape", "shape"), True)

    def test_ancestors_and_descendants(self):
        self.assertEqual(self.wide.ancestors("n"), ["a", "b", "c", "d", "e", "m", "n"])
        self.assertEqual(self.wide.ancestors("a"), ["a"])
        self.assertEqual(self.wide.ancestors(name="d"), ["a", "b", "d"])
        self.assertEqual(self.wide.descendants("e"), ["e", "n", "o"])
        self.assertEqual(self.wide.descendants("n"), ["n"])
        self.assertEqual(self.wide.descendants(name="b"), ["b", "c", "d", "m", "n", "o"])

    def test_highest_common_in_words(self):
        self.assertEqual(self.wide.highest_common("a", "b"), ["c", "d"])
        self.assertEqual(self.wide.highest_common("d", "e"), ["n", "o"])
        self.assertEqual(self.wide.highest_common("c", "d"), ["m"])
        self.assertEqual(self.wide.highest_common("a", "e", "c"), ["n"])
        self.assertEqual(self.wide.highest_common("m", "o"), [])
        self.assertEqual(self.wide.highest_common("b"), ["b"])
        self.assertEqual(self.wide.highest_common(first="m"), ["m"])

    def test_highest_common_of_one_to_three_classes(self):
        for count in (1, 2, 3):
            for classes in itertools.product(self.wide.names(), repeat=count):
                with self.subTest(classes=classes):
                    self.assertEqual(self.wide.highest_common(*classes), common_by_definition(support.WIDE, classes))

    def test_highest_common_with_many_repetitions(self):
        self.assertEqual(self.wide.highest_common("b", "a", "b", "a", "a", "b"), ["c", "d"])
        self.assertEqual(self.wide.highest_common(*["b"] * 30), ["b"])
        self.assertEqual(self.wide.highest_common(*self.wide.names()), [])
        self.assertEqual(self.kinds.highest_common(*self.kinds.names()), ["ball"])

    def test_all_hierarchies_of_four_classes(self):
        for made in support.hierarchies_of(("d", "b", "c", "a")):
            rows = [(name, made.superclasses(name)) for name in made.names()]
            for first, second in itertools.product(made.names(), repeat=2):
                with self.subTest(rows=rows, first=first, second=second):
                    wanted = support.is_below_by_definition(rows, first, second)
                    self.assertIs(made.is_at_or_below(first, second), wanted)
                    self.assertIs(second in made.ancestors(first), wanted)
                    self.assertIs(first in made.descendants(second), wanted)
                    self.assertEqual(made.highest_common(first, second), common_by_definition(rows, (first, second)))
            for name in made.names():
                self.assertEqual(made.ancestors(name), sorted(made.ancestors(name), key=made.position_of))
                self.assertEqual(made.descendants(name), sorted(made.descendants(name), key=made.position_of))

    def test_not_found_for_values_of_any_kind(self):
        for value in support.NO_CLASSES:
            for method in ("superclasses", "position_of", "ancestors", "descendants", "highest_common"):
                self.assert_not_found(value, getattr(self.kinds, method), value)
            self.assert_not_found(value, self.kinds.is_at_or_below, value, "thing")
            self.assert_not_found(value, self.kinds.is_at_or_below, "thing", value)
            self.assert_not_found(value, self.kinds.highest_common, "thing", "ball", value, "solid")
            self.assert_not_found(value, Hierarchy().position_of, value)

    def test_the_first_value_that_is_not_a_class_decides(self):
        self.assert_not_found([1], self.kinds.is_at_or_below, [1], {})
        self.assert_not_found("x", self.kinds.is_at_or_below, other="y", name="x")
        self.assert_not_found(None, self.kinds.highest_common, None, "x")
        self.assert_not_found("x", self.kinds.highest_common, "ball", "x", None, "y")
        self.assert_not_found(["ball"], self.kinds.highest_common, "ball", ["ball"], None)
        self.assert_not_found("thing", Hierarchy().is_at_or_below, "thing", "ball")

    def test_equal_hierarchies(self):
        again = Hierarchy(tuple(support.KINDS))
        self.assertIs(self.kinds == again, True)
        self.assertIs(self.kinds != again, False)
        self.assertIs(Hierarchy() == Hierarchy([]), True)
        self.assertIs(self.kinds == Hierarchy.of(**dict(support.KINDS)), True)

    def test_hierarchies_that_are_not_equal(self):
        others = [
            Hierarchy(),
            self.wide,
            Hierarchy(support.KINDS[:3]),
            Hierarchy(support.KINDS + [("cube", ())]),
            Hierarchy(support.KINDS[:3] + [("ball", ("solid", "shape"))]),
            Hierarchy(support.KINDS[:3] + [("ball", ("shape",))]),
            Hierarchy([support.KINDS[at] for at in (0, 2, 1, 3)]),
            Hierarchy([("thing", ()), ("shape", ()), ("solid", ("thing",)), ("ball", ("shape", "solid"))]),
        ]
        for other in others:
            with self.subTest(other=other):
                self.assertIs(self.kinds == other, False)
                self.assertIs(other == self.kinds, False)
                self.assertIs(self.kinds != other, True)

    def test_not_equal_to_values_of_other_kinds(self):
        values = [value for value in support.NO_CLASSES if not isinstance(value, Hierarchy)]
        for made in (self.kinds, Hierarchy()):
            rows = [(name, made.superclasses(name)) for name in made.names()]
            for value in values + [rows, tuple(rows), dict(rows), str(made), repr(made), len(made), made.names()]:
                with self.subTest(value=value):
                    self.assertIs(made == value, False)
                    self.assertIs(value == made, False)
                    self.assertIs(made != value, True)

    def test_len(self):
        self.assert_same(len(self.kinds), 4)
        self.assert_same(len(self.wide), 8)
        self.assert_same(len(Hierarchy()), 0)

    def test_repr(self):
        self.assertEqual(repr(Hierarchy()), "Hierarchy([])")
        self.assertEqual(repr(Hierarchy((("a", ()), ("b", ("a",))))), "Hierarchy([('a', ()), ('b', ('a',))])")
        self.assertEqual(repr(self.wide), f"Hierarchy({support.WIDE!r})")

    def test_limit(self):
        self.assert_same(Hierarchy.LIMIT, 20)
        self.assert_same(self.kinds.LIMIT, 20)

    def test_changes_to_returned_lists_have_no_effect(self):
        for action in (
            self.wide.names,
            lambda: self.wide.ancestors("n"),
            lambda: self.wide.descendants("a"),
            lambda: self.wide.highest_common("a", "b"),
            lambda: self.wide.highest_common("c"),
        ):
            before = action()
            changed = action()
            self.assertIsInstance(changed, list)
            changed.append("x")
            changed[0] = "y"
            self.assertEqual(action(), before)
            action().clear()
            self.assertEqual(action(), before)
        self.assertEqual(self.wide, Hierarchy(support.WIDE))

    def test_an_error_changes_nothing(self):
        for action in (self.kinds.superclasses, self.kinds.without_class, self.kinds.with_class):
            with self.assertRaises((LookupError, ValueError)):
                action([])
        self.assertEqual(self.kinds, Hierarchy(support.KINDS))


if __name__ == "__main__":
    unittest.main()
