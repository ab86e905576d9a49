"""Applicable methods, rivals, next, expansion and calls, points [11], [12] and [13]."""

import itertools
import unittest

import support
from fewestmethods.calls import answers
from fewestmethods.calls import applicable
from fewestmethods.calls import call
from fewestmethods.calls import expansion
from fewestmethods.calls import has_next
from fewestmethods.calls import just_above
from fewestmethods.calls import rivals
from fewestmethods.calls import status
from fewestmethods.errors import Ambiguous
from fewestmethods.errors import InvalidPoint
from fewestmethods.errors import NoMethod
from fewestmethods.errors import NotFound
from fewestmethods.hierarchy import Hierarchy
from fewestmethods.tables import MethodTable

KINDS = Hierarchy(support.KINDS)
CHAIN = Hierarchy.of(a=(), b=("a",), c=("b",), d=("c",), e=("d",))
NEXT = (("next",),)


def say(*words):
    return tuple(("say", word) for word in words)


TABLE = MethodTable(KINDS, 1, {("thing",): say("a"), ("solid",): say("b")})
SPLIT = MethodTable(KINDS, 1, {("shape",): say("a"), ("solid",): say("b")})
BY_POINT = (applicable, rivals, just_above, status, call)


class CallsCase(support.Case):
    def assert_as_defined(self, rows, count, methods):
        table = MethodTable(Hierarchy(rows), count, methods)
        reference = support.Reference(rows, count, methods)
        words = []
        for point in reference.every:
            with self.subTest(table=table, point=point):
                self.assert_same(applicable(table, point), reference.applicable(point))
                self.assert_same(rivals(table, point), reference.rivals(point))
                self.assert_same(just_above(table, point), reference.just_above(point))
                word, steps = reference.outcome(point)
                self.assert_same(status(table, point), word)
                self.assert_call(table, point, word, steps, reference.rivals(point))
                words.append((point, word))
        for point in methods:
            with self.subTest(table=table, point=point):
                self.assertIs(has_next(table, point), reference.has_next(point))
                self.assert_same(expansion(table, point), reference.expansion(point))
        self.assert_same(list(answers(table)), words)

    def assert_call(self, table, point, word, steps, among):
        if word == "answered":
            self.assert_same(call(table, point), steps)
        elif word == "none":
            self.assert_error(NoMethod, {"point": point}, call, table, point)
        else:
            self.assert_error(Ambiguous, {"point": point, "rivals": among}, call, table, point)


class DefinedTest(CallsCase):
    def test_samples(self):
        for rows, count, methods in support.samples(21, 150):
            self.assert_as_defined(rows, count, methods)

    def test_every_part_of_four_points(self):
        bodies = (say("a"), say("b"), say("a"))
        for size in range(5):
            for points in itertools.combinations(KINDS.names(), size):
                methods = {(name,): bodies[at % 3] for at, name in enumerate(points)}
                self.assert_as_defined(support.KINDS, 1, methods)

    def test_all_hierarchies_of_four_classes(self):
        for hierarchy in support.hierarchies_of(("z", "y", "x", "w")):
            rows = [(name, hierarchy.superclasses(name)) for name in hierarchy.names()]
            self.assert_as_defined(rows, 1, {("z",): say("a"), ("y",): say("b"), ("x",): say("a")})
            self.assert_as_defined(rows, 1, {("w",): say("a"), ("y",): say("a")})

    def test_several_superclasses(self):
        methods = {("a", "e"): say("a"), ("b", "e"): say("b"), ("d", "b"): say("c"), ("m", "n"): (), ("n", "n"): NEXT}
        self.assert_as_defined(support.WIDE, 2, methods)
        self.assert_as_defined(support.WIDE, 1, {("c",): say("a"), ("d",): say("a"), ("e",): (), ("m",): NEXT + say("b")})

    def test_twenty_classes_and_three_parameters(self):
        rows = [(name, tuple(support.TWENTY[max(0, at - 2):at])) for at, name in enumerate(support.TWENTY)]
        points = list(itertools.product("agmt", repeat=3))[:40]
        table = MethodTable(Hierarchy(rows), 3, {point: say(point[0]) for point in points})
        self.assertEqual(rivals(table, ("t", "t", "t")), [("g", "t", "t"), ("m", "g", "t")])
        found = list(answers(table))
        self.assertEqual(len(found), 8000)
        self.assertEqual(found[0], (("a", "a", "a"), "answered"))
        self.assertEqual(found[-1], (("t", "t", "t"), "ambiguous"))


class PointsOfMethodsTest(CallsCase):
    def test_applicable_rivals_and_just_above(self):
        self.assertEqual(applicable(TABLE, ("ball",)), [("thing",), ("solid",)])
        self.assertEqual(applicable(TABLE, ("shape",)), [("thing",)])
        self.assertEqual(rivals(TABLE, ("ball",)), [("solid",)])
        self.assertEqual(rivals(TABLE, ("solid",)), [("solid",)])
        self.assertEqual(just_above(TABLE, ("solid",)), [("thing",)])
        self.assertEqual(just_above(TABLE, ("ball",)), [("solid",)])
        self.assertEqual(just_above(TABLE, ("thing",)), [])
        self.assertEqual(rivals(SPLIT, ("ball",)), [("shape",), ("solid",)])
        self.assertEqual(just_above(SPLIT, ("ball",)), [("shape",), ("solid",)])

    def test_lists_are_as_listed(self):
        hierarchy = Hierarchy.of(z=(), a=(), m=("a", "z"))
        table = MethodTable(hierarchy, 2, {("a", "z"): (), ("z", "a"): (), ("a", "a"): (), ("z", "z"): ()})
        wanted = [("z", "z"), ("z", "a"), ("a", "z"), ("a", "a")]
        for action in (applicable, rivals, just_above):
            self.assertEqual(action(table, ("m", "m")), wanted)

    def test_by_name(self):
        self.assertEqual(applicable(point=("ball",), table=TABLE), [("thing",), ("solid",)])
        self.assertEqual(rivals(point=("ball",), table=TABLE), [("solid",)])
        self.assertEqual(just_above(point=("solid",), table=TABLE), [("thing",)])
        self.assertEqual(status(point=("ball",), table=TABLE), "answered")
        self.assertEqual(call(point=("ball",), table=TABLE), say("b"))
        self.assertEqual(expansion(point=("solid",), table=TABLE), say("b"))
        self.assertIs(has_next(point=("solid",), table=TABLE), True)
        self.assertEqual(len(list(answers(table=TABLE))), 4)

    def test_tables_without_methods(self):
        for count in (1, 2, 3):
            table = MethodTable(KINDS, count)
            point = ("ball",) * count
            self.assertEqual([applicable(table, point), rivals(table, point), just_above(table, point)], [[], [], []])
            self.assertEqual(status(table, point), "none")
            self.assert_error(NoMethod, {"point": point}, call, table, point)
        self.assertEqual(list(answers(MethodTable(Hierarchy(), 2))), [])
        self.assertEqual(set(word for _, word in answers(MethodTable(KINDS, 2))), {"none"})

    def test_returned_lists_are_new(self):
        table = MethodTable(KINDS, 1, {("shape",): say("a"), ("solid",): say("b"), ("thing",): ()})
        for action in (applicable, rivals, just_above):
            before = action(table, ("ball",))
            action(table, ("ball",)).clear()
            action(table, ("ball",)).append(("x",))
            self.assertEqual(action(table, ("ball",)), before)
        with self.assertRaises(Ambiguous) as caught:
            call(table, ("ball",))
        caught.exception.rivals.clear()
        self.assertEqual(rivals(table, ("ball",)), [("shape",), ("solid",)])
        self.assert_error(
            Ambiguous, {"point": ("ball",), "rivals": [("shape",), ("solid",)]}, call, table, ("ball",))

    def test_values_that_are_no_points_of_the_table(self):
        for action in BY_POINT:
            for value in support.NO_POINTS + (("ball", "ball"), ("ball", "ball", "ball"), ("a",), ("ball", [])):
                with self.subTest(action=action, value=value):
                    self.assert_error(InvalidPoint, {"value": value}, action, TABLE, value)
                    self.assert_error(InvalidPoint, {"value": value}, action, table=SPLIT, point=value)
            two = MethodTable(KINDS, 2)
            self.assert_error(InvalidPoint, {"value": ("ball",)}, action, two, ("ball",))
            self.assert_error(InvalidPoint, {"value": ("ball",) * 3}, action, two, ("ball",) * 3)


class ExpansionTest(CallsCase):
    def test_next_steps_at_each_place(self):
        table = MethodTable(CHAIN, 1, {
            ("a",): say("p", "q"),
            ("b",): NEXT + say("r"),
            ("c",): say("s") + NEXT + say("t"),
            ("d",): say("u") + NEXT,
            ("e",): NEXT,
        })
        wanted = {
            ("a",): say("p", "q"),
            ("b",): say("p", "q", "r"),
            ("c",): say("s", "p", "q", "r", "t"),
            ("d",): say("u", "s", "p", "q", "r", "t"),
            ("e",): say("u", "s", "p", "q", "r", "t"),
        }
        for point, steps in wanted.items():
            self.assert_same(expansion(table, point), steps)
            self.assert_same(call(table, point), steps)
        self.assertEqual([has_next(table, point) for point in table.points()], [False, True, True, True, True])

    def test_empty_expansions(self):
        table = MethodTable(CHAIN, 1, {("a",): (), ("b",): NEXT, ("d",): say("x") + NEXT})
        self.assert_same(expansion(table, ("b",)), ())
        self.assert_same(call(table, ("c",)), ())
        self.assertIs(has_next(table, ("b",)), True)
        self.assertEqual(status(table, ("c",)), "answered")
        self.assertEqual(call(table, ("e",)), say("x"))

    def test_call_steps_stay_as_they_are(self):
        body = (("call", "f", (0, "a")), ("next",), ("call", "next", ("next",)))
        table = MethodTable(CHAIN, 1, {("a",): (("call", "g", (0,)),), ("e",): body})
        self.assert_same(expansion(table, ("e",)), (body[0], ("call", "g", (0,)), body[2]))

    def test_a_method_without_next_step_can_have_a_next(self):
        self.assertIs(has_next(TABLE, ("thing",)), False)
        self.assertIs(has_next(TABLE, ("solid",)), True)
        below = SPLIT.with_method(("ball",), ())
        self.assertIs(has_next(below, ("ball",)), False)
        same = MethodTable(KINDS, 1, {("shape",): say("a"), ("solid",): say("a"), ("ball",): ()})
        self.assertIs(has_next(same, ("ball",)), True)

    def test_next_of_several_methods_with_the_same_expansion(self):
        methods = {("thing",): say("a"), ("shape",): NEXT + say("b"), ("solid",): say("a", "b"), ("ball",): say("c") + NEXT}
        table = MethodTable(KINDS, 1, methods)
        self.assertEqual(expansion(table, ("ball",)), say("c", "a", "b"))
        self.assertEqual(just_above(table, ("ball",)), [("shape",), ("solid",)])

    def test_values_that_are_no_methods(self):
        for action in (has_next, expansion):
            for value in support.NO_POINTS + (("ball",), ("shape",), ("thing", "thing"), ["thing"], ("thing", {})):
                with self.subTest(action=action, value=value):
                    self.assert_error(NotFound, {"value": value}, action, TABLE, value)
            self.assert_error(NotFound, {"value": ("thing",)}, action, MethodTable(KINDS, 1), ("thing",))


class CallTest(CallsCase):
    def test_rivals_with_equal_and_different_expansions(self):
        self.assert_error(Ambiguous, {"point": ("ball",), "rivals": [("shape",), ("solid",)]}, call, SPLIT, ("ball",))
        same = MethodTable(KINDS, 1, {("thing",): say("a"), ("shape",): NEXT, ("solid",): say("a")})
        self.assertEqual(call(same, ("ball",)), say("a"))
        self.assertEqual(status(same, ("ball",)), "answered")
        decided = SPLIT.with_method(("ball",), say("c"))
        self.assertEqual(call(decided, ("ball",)), say("c"))

    def test_three_rivals_of_which_two_agree(self):
        hierarchy = Hierarchy.of(a=(), b=(), c=(), d=("a", "b", "c"))
        for bodies in itertools.permutations((say("x"), say("x"), say("y"))):
            table = MethodTable(hierarchy, 1, dict(zip([("a",), ("b",), ("c",)], bodies)))
            self.assertEqual(status(table, ("d",)), "ambiguous")
            wanted = {"point": ("d",), "rivals": [("a",), ("b",), ("c",)]}
            self.assert_error(Ambiguous, wanted, call, table, ("d",))

    def test_crossed_points(self):
        table = MethodTable(KINDS, 2, {("thing", "ball"): say("a"), ("ball", "thing"): say("b")})
        self.assertEqual(call(table, ("solid", "ball")), say("a"))
        self.assertEqual(call(table, ("ball", "solid")), say("b"))
        wanted = {"point": ("ball", "ball"), "rivals": [("thing", "ball"), ("ball", "thing")]}
        self.assert_error(Ambiguous, wanted, call, table, ("ball", "ball"))
        self.assert_error(NoMethod, {"point": ("solid", "shape")}, call, table, ("solid", "shape"))

    def test_answers_are_yielded_as_listed(self):
        self.assertIsNot(answers(TABLE), answers(TABLE))
        wanted = [(("thing",), "none"), (("shape",), "answered"), (("solid",), "answered"), (("ball",), "ambiguous")]
        self.assert_same(list(answers(SPLIT)), wanted)
        self.assert_same(next(answers(SPLIT)), wanted[0])
        one_by_one = answers(SPLIT)
        self.assertEqual([next(one_by_one) for _ in wanted], wanted)
        self.assertRaises(StopIteration, next, one_by_one)

    def test_repeated_queries_have_the_same_results(self):
        for _ in range(3):
            self.assertEqual(call(TABLE, ("ball",)), say("b"))
            self.assertEqual(rivals(SPLIT, ("ball",)), [("shape",), ("solid",)])
            self.assertEqual(status(SPLIT, ("thing",)), "none")


if __name__ == "__main__":
    unittest.main()
