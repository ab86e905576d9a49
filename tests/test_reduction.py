"""Redundant methods, reducing, removal lists and reasons, points [14] and [15]; ONE SMALLEST and LOCAL of point [4]."""

import itertools
import unittest

import support
from fewestmethods.calls import expansion
from fewestmethods.errors import NotFound
from fewestmethods.hierarchy import Hierarchy
from fewestmethods.reduction import is_reason
from fewestmethods.reduction import is_redundant
from fewestmethods.reduction import is_removal_list
from fewestmethods.reduction import reason
from fewestmethods.reduction import reduced
from fewestmethods.reduction import redundant_points
from fewestmethods.reduction import removals
from fewestmethods.tables import MethodTable

KINDS = Hierarchy(support.KINDS)
CHAIN = Hierarchy.of(a=(), b=("a",), c=("b",), d=("c",), e=("d",))
NEXT = (("next",),)
SAY = (("say", "a"),)
TELL = (("say", "b"),)
CRY = (("say", "c"),)

TABLE = MethodTable(KINDS, 1, {("thing",): SAY, ("shape",): SAY, ("solid",): TELL})
# Only when the method at shape has been removed, the methods just above ball agree.
LATER = MethodTable(KINDS, 1, {("thing",): SAY, ("shape",): SAY, ("solid",): TELL, ("ball",): TELL})
WIDER = MethodTable(KINDS, 1, {("thing",): SAY, ("shape",): SAY, ("solid",): TELL, ("ball",): CRY})
NO_METHODS = support.NO_POINTS + (("ball",), ("thing", "thing"), ["thing"], ("thing", []))


def small_samples(seed, amount):
    """Pairs of a table and its reference, with few methods."""
    found = []
    for rows, count, methods in support.samples(seed, amount):
        found.append((MethodTable(Hierarchy(rows), count, methods), support.Reference(rows, count, methods)))
    return found


def redundant_by_definition(reference):
    return [point for point in reference.listed if reference.is_redundant(point)]


def ends_by_definition(reference):
    """All pairs (removal list, points that are left), whatever is removed first."""
    found = []
    redundant = redundant_by_definition(reference)
    if not redundant:
        return [([], reference.listed)]
    for point in redundant:
        for rest, left in ends_by_definition(reference.without(point)):
            found.append(([point, *rest], left))
    return found


def reasons_by_definition(reference, point):
    if reference.is_redundant(point):
        return []
    above = reference.just_above(point)
    if not above:
        return [("top",)]
    if reference.has_next(point):
        return [("differs", above[0])]
    pairs = itertools.combinations(above, 2)
    return [("split", *pair) for pair in pairs if reference.expansion(pair[0]) != reference.expansion(pair[1])]


class RedundantTest(support.Case):
    def test_samples(self):
        for table, reference in small_samples(31, 150):
            with self.subTest(table=table):
                wanted = redundant_by_definition(reference)
                self.assert_same(redundant_points(table), wanted)
                for point in table.points():
                    self.assertIs(is_redundant(table, point), point in wanted)

    def test_methods_that_repeat_those_above(self):
        self.assertEqual(redundant_points(TABLE), [("shape",)])
        self.assertEqual(redundant_points(LATER), [("shape",)])
        same = MethodTable(KINDS, 1, {(name,): SAY for name in KINDS.names()})
        self.assertEqual(redundant_points(same), [("shape",), ("solid",), ("ball",)])
        self.assertIs(is_redundant(point=("ball",), table=same), True)

    def test_a_method_with_a_next_step(self):
        table = MethodTable(KINDS, 1, {("thing",): SAY, ("shape",): NEXT, ("solid",): NEXT + TELL, ("ball",): SAY})
        self.assertEqual(redundant_points(table), [("shape",)])
        empty = MethodTable(CHAIN, 1, {("a",): (), ("b",): NEXT, ("c",): NEXT + SAY, ("d",): SAY, ("e",): NEXT})
        self.assertEqual(redundant_points(empty), [("b",), ("d",), ("e",)])

    def test_methods_without_a_next(self):
        table = MethodTable(KINDS, 1, {("shape",): SAY, ("solid",): SAY})
        self.assertEqual(redundant_points(table), [])
        split = MethodTable(KINDS, 1, {("shape",): SAY, ("solid",): TELL, ("ball",): SAY})
        self.assertEqual(redundant_points(split), [])
        both = MethodTable(KINDS, 1, {("shape",): SAY, ("solid",): SAY, ("ball",): SAY})
        self.assertEqual(redundant_points(both), [("ball",)])

    def test_only_the_methods_just_above_count(self):
        table = MethodTable(CHAIN, 1, {("a",): SAY, ("b",): TELL, ("c",): SAY})
        self.assertEqual(redundant_points(table), [])

    def test_values_that_are_no_methods(self):
        for value in NO_METHODS:
            with self.subTest(value=value):
                self.assert_error(NotFound, {"value": value}, is_redundant, TABLE, value)
                self.assert_error(NotFound, {"value": value}, reason, TABLE, value)
                self.assert_error(NotFound, {"value": value}, is_reason, TABLE, value, ("top",))
        self.assert_error(NotFound, {"value": ("thing",)}, is_redundant, MethodTable(KINDS, 1), ("thing",))

    def test_returned_lists_are_new(self):
        redundant_points(TABLE).clear()
        self.assertEqual(redundant_points(TABLE), [("shape",)])

    def test_local(self):
        """Methods that do not stand above a method do not matter."""
        for table, reference in small_samples(32, 90):
            for point in table.points():
                above = {other: reference.methods[other] for other in reference.applicable(point)}
                alone = MethodTable(table.hierarchy(), table.count(), above)
                with self.subTest(table=table, point=point):
                    self.assertIs(is_redundant(alone, point), is_redundant(table, point))


class ReducedTest(support.Case):
    def test_every_order_leaves_the_same_methods(self):
        several = 0
        for table, reference in small_samples(33, 200):
            ends = ends_by_definition(reference)
            several += len(ends) > 1
            with self.subTest(table=table):
                for _, left in ends:
                    self.assert_same(reduced(table).points(), left)
        self.assertGreater(several, 10)

    def test_removing_the_last_or_a_middle_one_first(self):
        for table, _ in small_samples(38, 120):
            for chosen in (lambda points: points[-1], lambda points: points[len(points) // 2]):
                left = table
                while redundant := redundant_points(left):
                    left = left.without_method(chosen(redundant))
                self.assertEqual(left, reduced(table))

    def test_bodies_and_expansions_stay_as_they_were(self):
        for table, _ in small_samples(34, 120):
            left = reduced(table)
            with self.subTest(table=table):
                self.assertIsInstance(left, MethodTable)
                self.assertEqual([left.hierarchy(), left.count()], [table.hierarchy(), table.count()])
                self.assertEqual(redundant_points(left), [])
                for point in left.points():
                    self.assert_same(left.body(point), table.body(point))
                    self.assert_same(expansion(left, point), expansion(table, point))

    def test_examples(self):
        self.assertEqual(reduced(TABLE), TABLE.without_method(("shape",)))
        self.assertEqual(reduced(LATER), MethodTable(KINDS, 1, {("thing",): SAY, ("solid",): TELL}))
        self.assertEqual(reduced(table=WIDER), WIDER.without_method(("shape",)))
        chain = MethodTable(CHAIN, 1, {("a",): SAY, ("b",): NEXT, ("c",): NEXT, ("d",): NEXT + TELL, ("e",): SAY + TELL})
        left = reduced(chain)
        self.assertEqual(left, MethodTable(CHAIN, 1, {("a",): SAY, ("d",): NEXT + TELL}))
        self.assertEqual(expansion(left, ("d",)), SAY + TELL)

    def test_the_table_stays_as_it_was(self):
        before = repr(LATER)
        reduced(LATER)
        list(removals(LATER))
        is_removal_list(LATER, [("shape",), ("ball",)])
        self.assertEqual(repr(LATER), before)

    def test_tables_without_methods_and_without_redundant_methods(self):
        for count in (1, 2, 3):
            for table in (MethodTable(KINDS, count), MethodTable(Hierarchy(), count)):
                self.assertEqual(redundant_points(table), [])
                self.assertEqual(reduced(table), table)
                self.assertEqual(list(removals(table)), [])
                self.assertIs(is_removal_list(table, []), True)
                self.assertIs(is_removal_list(table, [("ball",) * count]), False)
        self.assertEqual(reduced(reduced(WIDER)), reduced(WIDER))

    def test_forty_methods(self):
        hierarchy = Hierarchy.of(a=(), b=("a",), c=("a",), d=("b", "c"))
        points = list(itertools.product(hierarchy.names(), repeat=3))[:40]
        table = MethodTable(hierarchy, 3, {point: SAY for point in points})
        self.assertEqual(reduced(table).points(), [("a", "a", "a")])
        self.assertEqual(list(removals(table)), points[1:])

    def test_points_that_are_left_belong_to_every_settled_table_with_the_same_calls(self):
        compared = 0
        for hierarchy in support.hierarchies_of(("z", "y", "x")):
            rows = [(name, hierarchy.superclasses(name)) for name in hierarchy.names()]
            by_calls = {}
            for bodies in itertools.product((None, SAY, TELL), repeat=3):
                methods = {(name,): body for name, body in zip(hierarchy.names(), bodies) if body is not None}
                reference = support.Reference(rows, 1, methods)
                calls = tuple(reference.outcome(point) for point in reference.every)
                if not reference.conflicts():
                    by_calls.setdefault(calls, []).append(MethodTable(hierarchy, 1, methods))
            for tables in by_calls.values():
                compared += len(tables) > 1
                for one, two in itertools.product(tables, repeat=2):
                    self.assertLessEqual(set(reduced(one).points()), set(two.points()))
        self.assertGreater(compared, 5)


class RemovalsTest(support.Case):
    def test_each_time_the_first_redundant_method(self):
        for table, reference in small_samples(35, 150):
            wanted = []
            while redundant := redundant_by_definition(reference):
                wanted.append(redundant[0])
                reference = reference.without(redundant[0])
            with self.subTest(table=table):
                self.assert_same(list(removals(table)), wanted)
                self.assertIs(is_removal_list(table, wanted), True)

    def test_one_by_one(self):
        found = removals(LATER)
        self.assertEqual([next(found), next(found)], [("shape",), ("ball",)])
        self.assertRaises(StopIteration, next, found)
        self.assertEqual(list(removals(table=LATER)), [("shape",), ("ball",)])

    def test_redundant_only_after_another_one_has_been_removed(self):
        self.assertEqual(redundant_points(LATER), [("shape",)])
        self.assertEqual(list(removals(LATER)), [("shape",), ("ball",)])
        self.assertIs(is_removal_list(LATER, [("shape",), ("ball",)]), True)
        self.assertIs(is_removal_list(LATER, [("ball",), ("shape",)]), False)
        self.assertIs(is_removal_list(LATER, [("shape",)]), False)

    def test_removal_lists_by_definition(self):
        for table, reference in small_samples(36, 90):
            lists = [removed for removed, _ in ends_by_definition(reference)]
            longest = max(len(removed) for removed in lists)
            for removed in lists:
                self.assertIs(is_removal_list(table, removed), True)
                self.assertIs(is_removal_list(value=removed[:-1], table=table), removed == [])
            if len(table) <= 4:
                for size in range(longest + 2):
                    for chosen in itertools.product(table.points(), repeat=size):
                        with self.subTest(table=table, chosen=chosen):
                            self.assertIs(is_removal_list(table, list(chosen)), list(chosen) in lists)

    def test_values_that_are_no_removal_lists(self):
        for value in support.STRANGE + support.NUMBERS + support.STRINGS + support.TUPLES:
            for table in (TABLE, MethodTable(KINDS, 1)):
                with self.subTest(value=value):
                    self.assertIs(is_removal_list(table, value), False)
        for value in support.NO_POINTS:
            self.assertIs(is_removal_list(TABLE, [value]), False)
            self.assertIs(is_removal_list(TABLE, [("shape",), value]), False)
        wrong = [
            [], (("shape",),), {("shape",): 1}, {("shape",)}, [["shape"]], ["shape"], [("shape",), ("shape",)], [("ball",)],
            [("thing",)], [("solid",)], [("shape",), ("thing",)], [("shape", "shape")], [[("shape",)]], ("shape",),
        ]
        for value in wrong:
            with self.subTest(value=value):
                self.assertIs(is_removal_list(TABLE, value), False)
        self.assertIs(is_removal_list(TABLE, [("shape",)]), True)

    def test_the_value_stays_as_it_was(self):
        value = [("shape",), ("ball",)]
        is_removal_list(LATER, value)
        self.assertEqual(value, [("shape",), ("ball",)])


class ReasonTest(support.Case):
    def test_samples(self):
        splits = 0
        for table, reference in small_samples(37, 200):
            words = [("top",), ("differs",), None, ("split",)]
            pairs = list(itertools.product(table.points(), repeat=2))
            others = words + [("differs", point) for point in table.points()] + [("split", *pair) for pair in pairs]
            for point in table.points():
                wanted = reasons_by_definition(reference, point)
                splits += len(wanted) > 1
                with self.subTest(table=table, point=point):
                    found = reason(table, point)
                    self.assertEqual(found is None, wanted == [])
                    self.assertIs(is_reason(table, point, found), wanted != [])
                    self.assertTrue(found is None or found in wanted)
                    for value in others:
                        self.assertIs(is_reason(table, point, value), value in wanted)
        self.assertGreater(splits, 5)

    def test_each_reason(self):
        self.assert_same(reason(WIDER, ("thing",)), ("top",))
        self.assertIsNone(reason(WIDER, ("shape",)))
        self.assert_same(reason(WIDER, ("solid",)), ("differs", ("thing",)))
        self.assert_same(reason(point=("ball",), table=WIDER), ("split", ("shape",), ("solid",)))

    def test_differs_names_the_first_method_just_above(self):
        table = MethodTable(KINDS, 1, {("shape",): SAY, ("solid",): SAY, ("ball",): TELL})
        self.assert_same(reason(table, ("ball",)), ("differs", ("shape",)))
        self.assertIs(is_reason(table, ("ball",), ("differs", ("solid",))), False)
        far = MethodTable(CHAIN, 1, {("a",): SAY, ("b",): TELL, ("c",): SAY})
        self.assert_same(reason(far, ("c",)), ("differs", ("b",)))
        self.assertIs(is_reason(far, ("c",), ("differs", ("a",))), False)

    def test_a_split_of_three(self):
        hierarchy = Hierarchy.of(a=(), b=(), c=(), d=("a", "b", "c"))
        table = MethodTable(hierarchy, 1, {("a",): SAY, ("b",): SAY, ("c",): TELL, ("d",): ()})
        for value in (("split", ("a",), ("c",)), ("split", ("b",), ("c",))):
            self.assertIs(is_reason(table, ("d",), value), True)
        for value in (("split", ("a",), ("b",)), ("split", ("c",), ("a",)), ("split", ("c",), ("b",)),
                      ("split", ("a",), ("d",)), ("split", ("c",), ("c",)), ("differs", ("a",)), ("top",)):
            self.assertIs(is_reason(table, ("d",), value), False)
        self.assertIs(is_reason(table, ("d",), reason(table, ("d",))), True)

    def test_a_redundant_method_has_no_reason(self):
        for value in (None, (), ("top",), ("differs", ("thing",)), ("redundant",), ("split", ("thing",), ("solid",))):
            self.assertIs(is_reason(value=value, point=("shape",), table=TABLE), False)

    def test_values_that_are_no_reasons(self):
        wrong = [
            "top", ["top"], ("top", ()), ("top", ("thing",)), ("differs",), ("differs", ["thing"]), ["differs", ("thing",)],
            ("differs", "thing"), ("differs", ("thing",), ("thing",)), ("differs", ("solid",)), ("Differs", ("thing",)),
            ("split", ("shape",)), ("split", ["shape"], ["solid"]), ["split", ("shape",), ("solid",)],
            ("split", (("shape",), ("solid",))), ("split", ("solid",), ("shape",)), ("split", ("thing",), ("solid",)),
            {"top": 1}, {"top"}, (("top",),),
        ]
        for value in support.NO_POINTS + tuple(wrong):
            for point in (("thing",), ("solid",), ("ball",)):
                with self.subTest(value=value, point=point):
                    self.assertIs(is_reason(WIDER, point, value), False)

    def test_the_method_is_looked_at_before_the_value(self):
        self.assert_error(NotFound, {"value": ("x",)}, is_reason, TABLE, ("x",), None)
        self.assert_error(NotFound, {"value": []}, is_reason, table=TABLE, point=[], value=[])


if __name__ == "__main__":
    unittest.main()
