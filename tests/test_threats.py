"""Future rivals and threats, point [19]."""

import itertools
import unittest

import support
from fewestmethods.errors import NotFound
from fewestmethods.hierarchy import Hierarchy
from fewestmethods.reduction import reduced
from fewestmethods.tables import MethodTable
from fewestmethods.threats import future_rivals
from fewestmethods.threats import is_safe
from fewestmethods.threats import is_threat
from fewestmethods.threats import threats

KINDS = Hierarchy(support.KINDS)
FLAT = Hierarchy([(letter, ()) for letter in support.TWENTY])
NEXT = (("next",),)
SAY = (("say", "a"),)
TELL = (("say", "b"),)
CRY = (("say", "c"),)
TABLE = MethodTable(KINDS.without_class("ball"), 1, {("thing",): SAY, ("shape",): SAY, ("solid",): TELL})
NO_METHODS = support.NO_POINTS + (("ball",), ("thing", "thing"), ["thing"], ("thing", []), (("thing",), ("shape",)))


def future_by_definition(reference, first, second):
    """Point [19] with new classes whose names no other class has."""
    rows = list(reference.rows)
    point = []
    for at, (one, two) in enumerate(zip(first, second)):
        if reference.above[one, two]:
            point.append(one)
        elif reference.above[two, one]:
            point.append(two)
        else:
            rows.append((f"new{at}", (one, two)))
            point.append(f"new{at}")
    return support.Reference(rows, len(first), reference.methods).rivals(tuple(point))


class ThreatsTest(support.Case):
    def test_samples(self):
        found = 0
        for rows, count, methods in support.samples(71, 150):
            table = MethodTable(Hierarchy(rows), count, methods)
            reference = support.Reference(rows, count, methods)
            wanted = []
            for first, second in itertools.product(table.points(), repeat=2):
                among = future_by_definition(reference, first, second)
                differ = reference.expansion(first) != reference.expansion(second)
                is_one = differ and first in among and second in among
                with self.subTest(table=table, first=first, second=second):
                    self.assert_same(future_rivals(table, first, second), among)
                    self.assertIs(is_threat(table, first, second), is_one)
                if is_one and table.points().index(first) < table.points().index(second):
                    wanted.append((first, second))
            self.assert_same(threats(table), wanted)
            self.assertIs(is_safe(table), wanted == [])
            found += len(wanted) > 1
        self.assertGreater(found, 10)

    def test_either_order_and_by_name(self):
        shape, solid = ("shape",), ("solid",)
        self.assertEqual(future_rivals(TABLE, shape, solid), [shape, solid])
        self.assertEqual(future_rivals(TABLE, solid, shape), [shape, solid])
        self.assertEqual(future_rivals(second=shape, first=solid, table=TABLE), [shape, solid])
        self.assertIs(is_threat(TABLE, shape, solid), True)
        self.assertIs(is_threat(TABLE, solid, shape), True)
        self.assertIs(is_threat(second=shape, first=solid, table=TABLE), True)
        self.assertEqual(threats(table=TABLE), [(shape, solid)])
        self.assertIs(is_safe(table=TABLE), False)

    def test_a_method_with_itself(self):
        for table in (TABLE, MethodTable(KINDS, 2, {("ball", "thing"): SAY, ("thing", "ball"): TELL})):
            for point in table.points():
                self.assertEqual(future_rivals(table, point, point), [point])
                self.assertIs(is_threat(table, point, point), False)

    def test_one_class_at_or_below_the_other_one(self):
        self.assertEqual(future_rivals(TABLE, ("thing",), ("solid",)), [("solid",)])
        self.assertEqual(future_rivals(TABLE, ("solid",), ("thing",)), [("solid",)])
        self.assertIs(is_threat(TABLE, ("thing",), ("solid",)), False)
        two = MethodTable(KINDS, 2, {("thing", "shape"): SAY, ("ball", "solid"): TELL})
        self.assertEqual(future_rivals(two, ("thing", "shape"), ("ball", "solid")), [("thing", "shape"), ("ball", "solid")])
        self.assertEqual(threats(two), [(("thing", "shape"), ("ball", "solid"))])
        below = MethodTable(KINDS, 2, {("thing", "shape"): SAY, ("ball", "ball"): TELL})
        self.assertEqual(threats(below), [])

    def test_equal_expansions_are_no_threat(self):
        same = MethodTable(KINDS, 1, {("thing",): SAY, ("shape",): NEXT + TELL, ("solid",): SAY + TELL})
        self.assertEqual(future_rivals(same, ("shape",), ("solid",)), [("shape",), ("solid",)])
        self.assertIs(is_threat(same, ("shape",), ("solid",)), False)
        self.assertIs(is_safe(same), True)

    def test_a_method_at_a_common_subclass_does_not_matter(self):
        """A new class can stand beside ball."""
        table = MethodTable(KINDS, 1, {("shape",): SAY, ("solid",): TELL, ("ball",): CRY})
        self.assertEqual(future_rivals(table, ("shape",), ("solid",)), [("shape",), ("solid",)])
        self.assertEqual(threats(table), [(("shape",), ("solid",))])

    def test_a_third_method_between(self):
        """The method at (a, d) is below (a, b) and applies wherever both of the others do."""
        hierarchy = Hierarchy.of(a=(), b=(), c=(), d=("b",))
        first, second, third = ("a", "b"), ("c", "d"), ("a", "d")
        table = MethodTable(hierarchy, 2, {first: SAY, second: TELL, third: TELL})
        self.assertEqual(future_rivals(table, first, second), [third, second])
        self.assertIs(is_threat(table, first, second), False)
        self.assertEqual(threats(table), [])
        other = table.with_method(third, CRY)
        self.assertEqual(threats(other), [(third, second)])
        self.assertEqual(threats(other.without_method(third)), [(first, second)])

    def test_other_methods_among_the_future_rivals(self):
        hierarchy = Hierarchy.of(a=(), b=(), r=(), c=("a", "r"))
        table = MethodTable(hierarchy, 1, {("r",): SAY, ("b",): TELL, ("c",): CRY, ("a",): ()})
        self.assertEqual(future_rivals(table, ("b",), ("c",)), [("b",), ("c",)])
        wanted = [(("a",), ("b",)), (("a",), ("r",)), (("b",), ("r",)), (("b",), ("c",))]
        self.assertEqual(threats(table), wanted)

    def test_three_parameters(self):
        first, second = ("shape", "thing", "ball"), ("solid", "ball", "thing")
        table = MethodTable(KINDS, 3, {first: SAY, second: TELL, ("thing", "thing", "thing"): ()})
        self.assertEqual(threats(table), [(first, second)])
        decided = table.with_method(("thing", "ball", "ball"), CRY)
        self.assertEqual(future_rivals(decided, first, second), [("thing", "ball", "ball"), first, second])
        between = table.with_method(("shape", "ball", "ball"), CRY).with_method(("solid", "ball", "ball"), CRY)
        self.assertEqual(future_rivals(between, first, second), [("shape", "ball", "ball"), ("solid", "ball", "ball")])
        self.assertEqual(threats(between), [])

    def test_threats_in_their_order(self):
        hierarchy = Hierarchy.of(z=(), a=(), m=())
        table = MethodTable(hierarchy, 1, {("m",): SAY, ("a",): TELL, ("z",): CRY})
        wanted = [(("z",), ("a",)), (("z",), ("m",)), (("a",), ("m",))]
        self.assert_same(threats(table), wanted)
        flat = MethodTable(FLAT, 1, {(name,): (("say", name),) for name in support.TWENTY})
        points = flat.points()
        self.assertEqual(threats(flat), list(itertools.combinations(points, 2)))
        self.assertEqual(len(threats(flat)), 190)

    def test_tables_that_are_not_settled(self):
        crossed = MethodTable(KINDS, 2, {("thing", "ball"): SAY, ("ball", "thing"): TELL})
        self.assertEqual(threats(crossed), [(("thing", "ball"), ("ball", "thing"))])
        split = MethodTable(KINDS, 1, {("shape",): SAY, ("solid",): TELL})
        self.assertEqual(threats(split), [(("shape",), ("solid",))])
        self.assertIs(is_safe(split), False)

    def test_tables_with_twenty_classes(self):
        """New classes are only thought of, so there is always room."""
        table = MethodTable(FLAT, 3, {("a", "b", "c"): SAY, ("d", "e", "f"): TELL})
        self.assertEqual(threats(table), [(("a", "b", "c"), ("d", "e", "f"))])

    def test_reduced_tables(self):
        self.assertIs(is_safe(reduced(TABLE)), True)
        self.assertEqual(threats(reduced(TABLE)), [])

    def test_tables_without_methods(self):
        for count in (1, 2, 3):
            for table in (MethodTable(KINDS, count), MethodTable(Hierarchy(), count)):
                self.assertEqual(threats(table), [])
                self.assertIs(is_safe(table), True)

    def test_values_that_are_no_methods(self):
        for action, value in itertools.product((future_rivals, is_threat), NO_METHODS):
            with self.subTest(action=action, value=value):
                self.assert_error(NotFound, {"value": value}, action, TABLE, value, ("thing",))
                self.assert_error(NotFound, {"value": value}, action, TABLE, ("thing",), value)
                self.assert_error(NotFound, {"value": value}, action, table=TABLE, second=("x",), first=value)
                self.assert_error(NotFound, {"value": value}, action, table=TABLE, second=value, first=("solid",))

    def test_the_earlier_argument_decides(self):
        for action in (future_rivals, is_threat):
            self.assert_error(NotFound, {"value": ("x",)}, action, TABLE, ("x",), ("y",))
            self.assert_error(NotFound, {"value": []}, action, TABLE, [], None)
            self.assert_error(NotFound, {"value": ("ball",)}, action, TABLE, ("solid",), ("ball",))

    def test_returned_lists_are_new(self):
        threats(TABLE).clear()
        future_rivals(TABLE, ("shape",), ("solid",)).clear()
        self.assertEqual(threats(TABLE), [(("shape",), ("solid",))])
        self.assertEqual(future_rivals(TABLE, ("shape",), ("solid",)), [("shape",), ("solid",)])


if __name__ == "__main__":
    unittest.main()
