"""Tables made: the constructor, points [11] and [12]."""

import itertools
import unittest

import support
from fewestmethods.errors import InvalidCount
from fewestmethods.errors import InvalidMethods
from fewestmethods.errors import NoNext
from fewestmethods.errors import TooMany
from fewestmethods.hierarchy import Hierarchy
from fewestmethods.tables import MethodTable

KINDS = Hierarchy(support.KINDS)
WIDE = Hierarchy(support.WIDE)
FLAT = Hierarchy([(letter, ()) for letter in support.TWENTY])
SAY = (("say", "a"),)
TELL = (("say", "b"),)
NEXT = (("next",),)

NO_COUNTS = support.STRANGE + support.LISTS + support.TUPLES + support.STRINGS + (0, -1, 4, 5, 10**59, -(10**59), "1", (1,))
NO_BODIES = support.STRANGE + support.LISTS + support.NUMBERS + support.STRINGS + (
    ("say", "a"), ("next",), [("say", "a")], (["say", "a"],), (("say", "A"),), (("call", "f", ()),), (("call", "f", [0]),),
    (("call", "f", (True,)),), (("call", "f", (3,)),), (("next",), ("next",)), (("say", "a"), None), (("next",), ["next"]),
)


def many(number):
    """This many methods with two parameters."""
    points = list(itertools.product(support.TWENTY, repeat=2))
    return {point: SAY for point in points[:number]}


class MadeTest(support.Case):
    def assert_problem(self, problem, point, hierarchy, count, methods):
        with self.subTest(methods=methods):
            wanted = {"problem": problem, "point": point}
            self.assert_error(InvalidMethods, wanted, MethodTable, hierarchy, count, methods)
            self.assert_error(InvalidMethods, wanted, MethodTable, methods=methods, count=count, hierarchy=hierarchy)

    def assert_no_next(self, point, hierarchy, count, methods):
        """Whatever the order of the dict."""
        for ordered in (list(methods.items()), list(methods.items())[::-1], sorted(methods.items())):
            with self.subTest(methods=ordered):
                self.assert_error(NoNext, {"point": point}, MethodTable, hierarchy, count, dict(ordered))

    def test_without_methods(self):
        for count in (1, 2, 3):
            made = [
                MethodTable(KINDS, count),
                MethodTable(KINDS, count, None),
                MethodTable(KINDS, count, {}),
                MethodTable(methods=None, hierarchy=KINDS, count=count),
                MethodTable(count=count, hierarchy=KINDS, methods={}),
                MethodTable(hierarchy=KINDS, count=count),
            ]
            for table in made:
                self.assertEqual(table.points(), [])
                self.assert_same(table.count(), count)
                self.assertEqual(table.hierarchy(), KINDS)
                self.assertEqual(len(table), 0)
                self.assertEqual(table, made[0])
        self.assertEqual(MethodTable(Hierarchy(), 3).points(), [])

    def test_with_methods_by_position_and_by_name(self):
        methods = {("ball", "thing"): SAY, ("thing", "thing"): (), ("solid", "ball"): NEXT}
        for table in (MethodTable(KINDS, 2, methods), MethodTable(methods=methods, count=2, hierarchy=KINDS)):
            self.assertEqual(table.points(), [("thing", "thing"), ("solid", "ball"), ("ball", "thing")])
            for point, body in methods.items():
                self.assert_same(table.body(point), body)

    def test_bodies_are_for_the_parameter_count(self):
        for count, index in itertools.product((1, 2, 3), (0, 1, 2, 3)):
            point = ("thing",) * count
            methods = {point: (("call", "f", (index,)),)}
            if index < count:
                self.assertEqual(MethodTable(KINDS, count, methods).body(point), methods[point])
            else:
                self.assert_problem("body", point, KINDS, count, methods)

    def test_classes_and_functions_of_call_steps_are_not_checked(self):
        body = (("call", "nowhere", ("noone", "ball", "nobody")),)
        self.assertEqual(MethodTable(KINDS, 1, {("ball",): body}).body(("ball",)), body)

    def test_samples_are_tables(self):
        for rows, count, methods in support.samples(11, 60):
            table = MethodTable(Hierarchy(rows), count, methods)
            self.assertEqual(table.points(), support.Reference(rows, count, methods).listed)
            self.assertEqual({point: table.body(point) for point in table.points()}, methods)

    def test_values_that_are_no_counts(self):
        for value in NO_COUNTS:
            with self.subTest(value=value):
                self.assert_error(InvalidCount, {"value": value}, MethodTable, KINDS, value)
                self.assert_error(InvalidCount, {"value": value}, MethodTable, KINDS, value, {("ball",): SAY})
                self.assert_error(InvalidCount, {"value": value}, MethodTable, KINDS, value, 7)

    def test_methods_that_are_no_dict(self):
        values = [value for value in support.STRANGE if value is not None and not isinstance(value, dict)]
        for value in (*values, *support.NUMBERS, *support.LISTS, *support.TUPLES, *support.STRINGS):
            self.assert_problem("dict", None, KINDS, 1, value)
        self.assert_problem("dict", None, KINDS, 1, [(("ball",), SAY)])
        self.assert_problem("dict", None, KINDS, 2, {("ball",)})

    def test_keys_that_are_no_points(self):
        for value in support.NO_POINTS:
            if support.has_hash(value):
                self.assert_problem("point", value, KINDS, 1, {value: SAY})
                self.assert_problem("point", value, KINDS, 2, {("ball", "ball"): SAY, value: SAY, ("ball", "thing"): SAY})
                self.assert_problem("point", value, Hierarchy(), 3, {value: SAY})

    def test_points_of_another_length(self):
        for count, length in itertools.permutations((1, 2, 3), 2):
            point = ("ball",) * length
            self.assert_problem("point", point, KINDS, count, {point: SAY})
            self.assert_problem("point", point, KINDS, count, {("ball",) * count: SAY, point: SAY})

    def test_points_of_another_hierarchy(self):
        self.assert_problem("point", ("a",), KINDS, 1, {("a",): SAY})
        self.assert_problem("point", ("ball",), WIDE, 1, {("ball",): SAY})

    def test_values_that_are_no_bodies(self):
        for value in NO_BODIES:
            self.assert_problem("body", ("ball",), KINDS, 1, {("ball",): value})
            self.assert_problem("body", ("ball",), KINDS, 1, {("thing",): SAY, ("ball",): value, ("solid",): SAY})

    def test_the_first_key_in_the_order_of_the_dict_decides(self):
        self.assert_problem("point", ("x",), KINDS, 1, {("x",): SAY, ("thing",): None})
        self.assert_problem("body", ("thing",), KINDS, 1, {("thing",): None, ("x",): SAY})
        self.assert_problem("body", ("solid",), KINDS, 1, {("ball",): SAY, ("solid",): [], ("thing",): None, 7: SAY})
        self.assert_problem("point", 7, KINDS, 1, {("ball",): SAY, 7: SAY, ("x",): SAY})
        self.assert_problem("point", ("x",), KINDS, 1, {("ball",): SAY, ("x",): SAY, 7: SAY})

    def test_point_before_body_of_the_same_key(self):
        self.assert_problem("point", ("x",), KINDS, 1, {("x",): None})
        self.assert_problem("point", ("ball", "ball"), KINDS, 1, {("ball", "ball"): [], ("ball",): None})

    def test_forty_and_forty_one_methods(self):
        self.assertEqual(len(MethodTable(FLAT, 2, many(40))), 40)
        self.assertEqual(MethodTable(FLAT, 2, many(40)).points(), list(many(40)))
        self.assert_error(TooMany, {"limit": 40}, MethodTable, FLAT, 2, many(41))
        self.assert_error(TooMany, {"limit": 40}, MethodTable, FLAT, 2, many(60))

    def test_a_next_step_without_a_method_above(self):
        self.assert_no_next(("thing",), KINDS, 1, {("thing",): NEXT})
        self.assert_no_next(("ball",), KINDS, 1, {("ball",): SAY + NEXT + SAY})
        self.assert_no_next(("solid",), KINDS, 1, {("shape",): SAY, ("solid",): NEXT})
        self.assert_no_next(("shape",), KINDS, 1, {("ball",): SAY, ("shape",): SAY + NEXT})
        self.assert_no_next(("ball", "solid"), KINDS, 2, {("ball", "solid"): NEXT, ("thing", "ball"): SAY})
        self.assert_no_next(("b",), WIDE, 1, {("a",): SAY, ("b",): NEXT, ("c",): SAY})

    def test_a_next_step_below_different_expansions(self):
        self.assert_no_next(("ball",), KINDS, 1, {("shape",): SAY, ("solid",): TELL, ("ball",): NEXT})
        self.assert_no_next(("ball",), KINDS, 1, {("thing",): SAY, ("solid",): TELL, ("shape",): SAY, ("ball",): NEXT})
        longer = {("thing",): SAY, ("solid",): TELL + NEXT, ("shape",): SAY + NEXT, ("ball",): NEXT}
        self.assert_no_next(("ball",), KINDS, 1, longer)
        crossed = {("thing", "ball"): SAY, ("ball", "thing"): (), ("ball", "ball"): NEXT}
        self.assert_no_next(("ball", "ball"), KINDS, 2, crossed)

    def test_a_next_step_below_equal_expansions(self):
        tables = [
            (KINDS, 1, {("shape",): SAY, ("solid",): SAY, ("ball",): NEXT}),
            (KINDS, 1, {("thing",): SAY, ("shape",): SAY + SAY, ("solid",): NEXT + SAY, ("ball",): NEXT}),
            (KINDS, 1, {("thing",): SAY, ("ball",): NEXT}),
            (KINDS, 1, {("thing",): (), ("ball",): NEXT}),
            (KINDS, 1, {("shape",): (), ("solid",): (), ("ball",): NEXT}),
            # The methods far above differ, but those just above are one.
            (WIDE, 1, {("a",): SAY, ("b",): TELL, ("d",): (), ("o",): NEXT}),
        ]
        for hierarchy, count, methods in tables:
            self.assertEqual(len(MethodTable(hierarchy, count, methods)), len(methods))

    def test_the_first_method_as_listed_decides(self):
        self.assert_no_next(("thing",), KINDS, 1, {("ball",): NEXT, ("solid",): NEXT, ("thing",): NEXT})
        self.assert_no_next(("shape",), KINDS, 1, {("solid",): NEXT, ("shape",): NEXT, ("ball",): NEXT})
        self.assert_no_next(("a",), WIDE, 1, {("b",): NEXT, ("a",): NEXT})
        below = {("shape",): SAY, ("solid",): TELL, ("ball",): NEXT}
        self.assert_no_next(("ball",), KINDS.with_class("cube", ("ball",)), 1, {("cube",): NEXT, **below})
        both = {("b",): TELL, ("a",): SAY, ("c",): NEXT, ("d",): NEXT, ("e",): NEXT}
        self.assert_no_next(("c",), WIDE, 1, both)

    def test_two_errors_at_once(self):
        self.assert_error(InvalidCount, {"value": 0}, MethodTable, KINDS, 0, [])
        self.assert_error(InvalidCount, {"value": True}, MethodTable, KINDS, True, {("ball",): None})
        self.assert_problem("point", ("x", "a"), FLAT, 2, {**many(41), ("x", "a"): SAY})
        self.assert_problem("body", ("t", "t"), FLAT, 2, {**many(41), ("t", "t"): None})
        self.assert_problem("body", ("ball",), KINDS, 1, {("thing",): NEXT, ("ball",): None})
        self.assert_problem("point", ("x",), KINDS, 1, {("thing",): NEXT, ("x",): SAY})
        self.assert_error(TooMany, {"limit": 40}, MethodTable, FLAT, 2, {**many(40), ("t", "t"): NEXT})

    def test_later_changes_to_the_passed_dict_have_no_effect(self):
        methods = {("thing",): SAY, ("solid",): TELL}
        table = MethodTable(KINDS, 1, methods)
        shown = repr(table)
        methods[("thing",)] = ()
        methods[("ball",)] = SAY
        del methods[("solid",)]
        self.assertEqual(table, MethodTable(KINDS, 1, {("thing",): SAY, ("solid",): TELL}))
        self.assertEqual(table.points(), [("thing",), ("solid",)])
        self.assertEqual(table.body(("thing",)), SAY)
        self.assertEqual(repr(table), shown)

    def test_the_passed_dict_stays_as_it_was(self):
        methods = {("solid",): NEXT, ("thing",): SAY}
        MethodTable(KINDS, 1, methods)
        self.assertEqual(list(methods.items()), [(("solid",), NEXT), (("thing",), SAY)])


if __name__ == "__main__":
    unittest.main()
