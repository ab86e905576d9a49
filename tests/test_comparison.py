"""Tables that are like each other, equal in calls, and their highest changes, point [16]."""

import itertools
import unittest

import support
from fewestmethods.comparison import highest_changes
from fewestmethods.comparison import is_equal_in_calls
from fewestmethods.errors import Unlike
from fewestmethods.hierarchy import Hierarchy
from fewestmethods.reduction import reduced
from fewestmethods.tables import MethodTable

KINDS = Hierarchy(support.KINDS)
WIDE = Hierarchy(support.WIDE)
NEXT = (("next",),)
SAY = (("say", "a"),)
TELL = (("say", "b"),)


def table_of(methods, hierarchy=KINDS):
    """A table with one parameter, from a dict from classes to bodies."""
    return MethodTable(hierarchy, 1, {(name,): body for name, body in methods.items()})


class ComparisonTest(support.Case):
    def assert_changes(self, wanted, first, second):
        """In either order, by position and by name."""
        for one, two in ((first, second), (second, first)):
            with self.subTest(first=one, second=two):
                self.assert_same(highest_changes(one, two), wanted)
                self.assert_same(highest_changes(second=two, first=one), wanted)
                self.assertIs(is_equal_in_calls(one, two), wanted == [])
                self.assertIs(is_equal_in_calls(second=two, first=one), wanted == [])

    def test_samples(self):
        different = 0
        for rows, count, methods in support.samples(41, 120):
            hierarchy = Hierarchy(rows)
            first, one = MethodTable(hierarchy, count, methods), support.Reference(rows, count, methods)
            for point in methods:
                others = {other: one.expansion(other) for other in methods if other != point}
                second, two = MethodTable(hierarchy, count, others), support.Reference(rows, count, others)
                changed = [place for place in one.every if one.outcome(place) != two.outcome(place)]
                different += changed != []
                self.assert_changes(one.highest(changed), first, second)
        self.assertGreater(different, 50)

    def test_a_table_with_itself(self):
        for rows, count, methods in support.samples(42, 60):
            table = MethodTable(Hierarchy(rows), count, methods)
            self.assert_changes([], table, table)
            self.assert_changes([], table, MethodTable(Hierarchy(rows), count, methods))

    def test_a_settled_table_with_its_reduced_table(self):
        smaller = 0
        for rows, count, methods in support.samples(43, 150):
            table = MethodTable(Hierarchy(rows), count, methods)
            if not support.Reference(rows, count, methods).conflicts():
                self.assert_changes([], table, reduced(table))
                smaller += len(reduced(table)) < len(table)
        self.assertGreater(smaller, 10)

    def test_an_unsettled_table_with_its_reduced_table(self):
        table = table_of({"thing": SAY, "shape": SAY, "solid": TELL})
        self.assert_changes([("ball",)], table, reduced(table))
        other = table_of({"thing": SAY, "shape": (), "solid": TELL})
        self.assert_changes([], other, reduced(other))

    def test_one_method_more(self):
        table = table_of({"thing": SAY, "solid": TELL})
        self.assert_changes([("ball",)], table, table.with_method(("ball",), SAY))
        self.assert_changes([], table, table.with_method(("ball",), TELL))
        self.assert_changes([("shape",)], table, table.with_method(("shape",), TELL))
        self.assert_changes([("thing",)], table, table.without_method(("thing",)))

    def test_a_body_only(self):
        table = table_of({"thing": SAY, "solid": TELL})
        self.assert_changes([("thing",)], table, table.with_method(("thing",), ()))
        self.assert_changes([("solid",)], table, table.with_method(("solid",), ()))
        self.assert_changes([("thing",)], table, table_of({"thing": TELL, "solid": SAY}))

    def test_equal_expansions_of_different_bodies(self):
        first = table_of({"thing": SAY, "solid": NEXT + TELL, "ball": NEXT})
        second = table_of({"thing": SAY, "solid": SAY + TELL, "ball": SAY + TELL})
        self.assertNotEqual(first, second)
        self.assert_changes([], first, second)

    def test_no_call_ambiguous_and_answered(self):
        split = table_of({"shape": SAY, "solid": TELL})
        swapped = table_of({"shape": TELL, "solid": SAY})
        none = table_of({})
        answered = table_of({"shape": SAY, "solid": TELL, "ball": ()})
        same = table_of({"shape": SAY, "solid": SAY})
        # Both are ambiguous at ball, although the rivals say different things.
        self.assert_changes([("shape",), ("solid",)], split, swapped)
        self.assert_changes([("shape",), ("solid",)], split, none)
        self.assert_changes([("ball",)], split, answered)
        self.assert_changes([("solid",)], split, same)
        self.assert_changes([("ball",)], none, table_of({"ball": ()}))

    def test_ambiguous_in_both_with_other_rivals(self):
        hierarchy = Hierarchy.of(a=(), b=(), c=(), d=("a", "b", "c"))
        first = table_of({"a": SAY, "b": TELL, "c": ()}, hierarchy)
        self.assert_changes([("c",)], first, table_of({"a": SAY, "b": TELL}, hierarchy))

    def test_several_highest_changes_as_listed(self):
        hierarchy = Hierarchy.of(z=(), a=(), m=("a", "z"), b=("m",))
        two = MethodTable(hierarchy, 2, {("a", "z"): (), ("z", "a"): (), ("b", "b"): SAY})
        self.assert_changes([("z", "a"), ("a", "z")], two, MethodTable(hierarchy, 2))
        self.assert_changes([("b", "b")], two, two.without_method(("b", "b")))
        three = MethodTable(KINDS, 3, {("thing", "ball", "thing"): SAY, ("ball", "thing", "thing"): TELL})
        wanted = [("thing", "ball", "thing"), ("ball", "thing", "thing")]
        self.assert_changes(wanted, three, MethodTable(KINDS, 3))
        self.assert_changes([("ball", "ball", "thing")], three, three.with_method(("ball", "ball", "thing"), ()))

    def test_tables_without_methods(self):
        for count in (1, 2, 3):
            self.assert_changes([], MethodTable(KINDS, count), MethodTable(KINDS, count))
            self.assert_changes([], MethodTable(Hierarchy(), count), MethodTable(Hierarchy(), count))

    def test_unlike_tables(self):
        table = table_of({"thing": SAY})
        others = [
            MethodTable(KINDS, 2),
            MethodTable(KINDS, 3, {("thing",) * 3: SAY}),
            MethodTable(WIDE, 1),
            table.with_class("cube"),
            table.without_class("ball"),
            MethodTable(Hierarchy(), 1),
            MethodTable(Hierarchy.of(thing=(), solid=("thing",), shape=("thing",), ball=("shape", "solid")), 1),
            MethodTable(Hierarchy.of(thing=(), shape=("thing",), solid=("thing",), ball=("solid", "shape")), 1),
        ]
        for action, other in itertools.product((is_equal_in_calls, highest_changes), others):
            with self.subTest(action=action, other=other):
                self.assert_error(Unlike, {}, action, table, other)
                self.assert_error(Unlike, {}, action, other, table)
                self.assert_error(Unlike, {}, action, second=table, first=other)

    def test_returned_lists_are_new(self):
        first, second = table_of({"thing": SAY}), table_of({})
        highest_changes(first, second).clear()
        self.assertEqual(highest_changes(first, second), [("thing",)])


if __name__ == "__main__":
    unittest.main()
