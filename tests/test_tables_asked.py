"""Tables asked: points, has_method, body, hierarchy, count, len, repr, ==, LIMIT and is_count."""

import itertools
import unittest

import support
from fewestmethods.errors import NotFound
from fewestmethods.hierarchy import Hierarchy
from fewestmethods.tables import MethodTable

KINDS = Hierarchy(support.KINDS)
WIDE = Hierarchy(support.WIDE)
SAY = (("say", "a"),)
TELL = (("say", "b"),)
NEXT = (("next",),)


class AskedTest(support.Case):
    def setUp(self):
        self.table = MethodTable(KINDS, 1, {("solid",): TELL, ("thing",): SAY})
        self.pairs = MethodTable(WIDE, 2, {("m", "a"): SAY, ("a", "m"): (), ("a", "a"): TELL, ("b", "o"): TELL})

    def test_points_are_listed_whatever_the_order_of_the_dict(self):
        methods = {("thing",): SAY, ("shape",): NEXT, ("solid",): TELL, ("ball",): ()}
        for order in itertools.permutations(methods):
            table = MethodTable(KINDS, 1, {point: methods[point] for point in order})
            self.assert_same(table.points(), [("thing",), ("shape",), ("solid",), ("ball",)])
        self.assert_same(self.pairs.points(), [("a", "a"), ("a", "m"), ("b", "o"), ("m", "a")])

    def test_points_are_listed_by_positions_not_by_letters(self):
        table = MethodTable(Hierarchy.of(z=(), a=(), m=()), 2, {("a", "z"): (), ("m", "a"): (), ("z", "m"): ()})
        self.assertEqual(table.points(), [("z", "m"), ("a", "z"), ("m", "a")])

    def test_has_method(self):
        for point in itertools.product(WIDE.names(), repeat=2):
            self.assertIs(self.pairs.has_method(point), point in self.pairs.points())
        self.assertIs(self.table.has_method(value=("thing",)), True)
        self.assertIs(self.table.has_method(value=("ball",)), False)
        self.assertIs(MethodTable(KINDS, 1).has_method(("thing",)), False)

    def test_has_method_for_any_value(self):
        for value in support.NO_POINTS:
            for table in (self.table, self.pairs, MethodTable(Hierarchy(), 3)):
                with self.subTest(value=value):
                    self.assertIs(table.has_method(value), False)
        for value in (["thing"], {"thing": 1}, ("thing", "thing"), ("thing", []), ("thing", {}), (("thing",),), "thing"):
            self.assertIs(self.table.has_method(value), False)

    def test_body(self):
        self.assert_same(self.table.body(("solid",)), TELL)
        self.assert_same(self.table.body(point=("thing",)), SAY)
        self.assert_same(self.pairs.body(("a", "m")), ())
        going_on = MethodTable(KINDS, 1, {("thing",): SAY, ("ball",): SAY + NEXT})
        self.assert_same(going_on.body(("ball",)), SAY + NEXT)

    def test_body_of_no_method(self):
        for value in support.NO_POINTS + (("ball",), ("shape",), ("thing", "thing"), ("thing", []), ["thing"]):
            with self.subTest(value=value):
                self.assert_error(NotFound, {"value": value}, self.table.body, value)
                self.assert_error(NotFound, {"value": value}, self.table.body, point=value)
        self.assert_error(NotFound, {"value": ("thing",)}, MethodTable(KINDS, 1).body, ("thing",))
        self.assert_error(NotFound, {"value": ("m", "m")}, self.pairs.body, ("m", "m"))

    def test_hierarchy_and_count(self):
        self.assertIsInstance(self.table.hierarchy(), Hierarchy)
        self.assertEqual(self.table.hierarchy(), KINDS)
        self.assertEqual(self.pairs.hierarchy(), WIDE)
        for count in (1, 2, 3):
            self.assert_same(MethodTable(KINDS, count).count(), count)

    def test_len(self):
        self.assertEqual([len(self.table), len(self.pairs), len(MethodTable(KINDS, 3))], [2, 4, 0])
        for rows, count, methods in support.samples(3, 30):
            self.assertEqual(len(MethodTable(Hierarchy(rows), count, methods)), len(methods))

    def test_repr(self):
        shown = "MethodTable(1, {('thing',): (('say', 'a'),), ('solid',): (('say', 'b'),)})"
        self.assertEqual(repr(self.table), shown)
        self.assertEqual(repr(MethodTable(KINDS, 3)), "MethodTable(3, {})")
        steps = (("call", "f", (0, 1, "ball")), ("next",))
        two = MethodTable(KINDS, 2, {("ball", "ball"): steps, ("thing", "ball"): ()})
        wanted = "MethodTable(2, {('thing', 'ball'): (), ('ball', 'ball'): (('call', 'f', (0, 1, 'ball')), ('next',))})"
        self.assertEqual(repr(two), wanted)

    def assert_equal_both_ways(self, wanted, first, second):
        with self.subTest(first=first, second=second):
            self.assertIs(first == second, wanted)
            self.assertIs(second == first, wanted)
            self.assertIs(first != second, not wanted)
            self.assertIs(second != first, not wanted)

    def test_equal_tables(self):
        again = MethodTable(Hierarchy(support.KINDS), 1, {("thing",): SAY, ("solid",): TELL})
        self.assert_equal_both_ways(True, self.table, self.table)
        self.assert_equal_both_ways(True, self.table, again)
        self.assert_equal_both_ways(True, MethodTable(KINDS, 2), MethodTable(KINDS, 2, {}))

    def test_tables_that_are_not_equal(self):
        others = [
            MethodTable(KINDS, 1, {("thing",): SAY}),
            MethodTable(KINDS, 1, {("thing",): SAY, ("solid",): SAY}),
            MethodTable(KINDS, 1, {("thing",): SAY, ("shape",): TELL}),
            MethodTable(KINDS, 1, {("thing",): SAY, ("solid",): TELL, ("ball",): TELL}),
            MethodTable(KINDS.with_class("cube"), 1, {("thing",): SAY, ("solid",): TELL}),
            MethodTable(KINDS.without_class("ball"), 1, {("thing",): SAY, ("solid",): TELL}),
            MethodTable(KINDS, 1),
            self.pairs,
        ]
        for other in others:
            self.assert_equal_both_ways(False, self.table, other)
        for one, two in itertools.combinations((1, 2, 3), 2):
            self.assert_equal_both_ways(False, MethodTable(KINDS, one), MethodTable(KINDS, two))
        self.assert_equal_both_ways(False, MethodTable(KINDS, 1), MethodTable(Hierarchy(), 1))

    def test_equal_expansions_are_not_equal_bodies(self):
        first = MethodTable(KINDS, 1, {("thing",): SAY, ("solid",): NEXT})
        second = MethodTable(KINDS, 1, {("thing",): SAY, ("solid",): SAY})
        self.assert_equal_both_ways(False, first, second)

    def test_values_of_other_kinds(self):
        values = (*support.NO_POINTS, KINDS, repr(self.table), {("thing",): SAY, ("solid",): TELL}, self.table.points())
        for value in values:
            self.assert_equal_both_ways(False, self.table, value)
        for value in (None, 0, {}, [], (), "", False):
            self.assert_equal_both_ways(False, MethodTable(KINDS, 1), value)

    def test_limit(self):
        self.assert_same(MethodTable.LIMIT, 40)
        self.assert_same(self.table.LIMIT, 40)

    def test_is_count(self):
        wrong = support.STRANGE + support.LISTS + support.TUPLES + support.STRINGS + (0, -1, 4, 10**59, "1", (1,), [1])
        for asked in (MethodTable.is_count, self.table.is_count):
            for count in (1, 2, 3):
                self.assertIs(asked(count), True)
                self.assertIs(asked(value=count), True)
            for value in wrong:
                with self.subTest(value=value):
                    self.assertIs(asked(value), False)

    def test_returned_lists_are_new(self):
        self.table.points().clear()
        self.table.points().append(("x",))
        self.assertIsNot(self.table.points(), self.table.points())
        self.assertEqual(self.table.points(), [("thing",), ("solid",)])


if __name__ == "__main__":
    unittest.main()
