"""Points and common points, points [8] and [9]."""

import itertools
import unittest

import support
from fewestmethods import points as points_file
from fewestmethods.errors import InvalidCount
from fewestmethods.errors import InvalidPoint
from fewestmethods.errors import InvalidPoints
from fewestmethods.hierarchy import Hierarchy
from fewestmethods.points import all_points
from fewestmethods.points import highest
from fewestmethods.points import highest_common_points
from fewestmethods.points import is_point
from fewestmethods.points import is_point_at_or_below
from fewestmethods.points import listed
from fewestmethods.points import lowest
from fewestmethods.points import points_at_or_below

KINDS = Hierarchy(support.KINDS)
WIDE = Hierarchy(support.WIDE)
EMPTY = Hierarchy()

NO_POINTS = support.NO_POINTS


def below_by_definition(hierarchy, first, second):
    """Point [8], read off the superclasses."""
    rows = [(name, hierarchy.superclasses(name)) for name in hierarchy.names()]
    return all(support.is_below_by_definition(rows, one, two) for one, two in zip(first, second))


def every_point(hierarchy, count):
    return list(itertools.product(hierarchy.names(), repeat=count))


class PointsCase(support.Case):
    def assert_invalid_point(self, value, action, *values, **named):
        with self.subTest(value=value, values=values):
            self.assert_error(InvalidPoint, {"value": value}, action, *values, **named)

    def assert_invalid_points(self, position, hierarchy, points):
        for action in (listed, highest, lowest):
            with self.subTest(action=action, points=points):
                self.assert_error(InvalidPoints, {"position": position}, action, hierarchy, points)
                self.assert_error(InvalidPoints, {"position": position}, action, points=points, hierarchy=hierarchy)

    def assert_new(self, action):
        """Changes to a returned list have no effect on later results."""
        before = action()
        self.assertIsInstance(before, list)
        self.assertTrue(all(type(point) is tuple for point in before))
        changed = action()
        changed.reverse()
        changed.append(("x",))
        self.assertEqual(action(), before)
        action().clear()
        self.assertEqual(action(), before)


class IsPointTest(PointsCase):
    def test_max_parameters(self):
        self.assert_same(points_file.MAX_PARAMETERS, 3)

    def test_points_of_each_length(self):
        for count in (1, 2, 3):
            for point in every_point(KINDS, count):
                self.assertIs(is_point(KINDS, point), True)
                self.assertIs(is_point(WIDE, point), False)
                self.assertIs(is_point(EMPTY, point), False)
        self.assertIs(is_point(value=("ball", "ball"), hierarchy=KINDS), True)

    def test_other_values(self):
        for value in NO_POINTS:
            for hierarchy in (KINDS, WIDE, EMPTY):
                with self.subTest(value=value):
                    self.assertIs(is_point(hierarchy, value), False)

    def test_four_classes(self):
        for point in (("ball",) * 4, ("thing", "shape", "solid", "ball"), ("ball",) * 20):
            self.assertIs(is_point(KINDS, point), False)


class BelowTest(PointsCase):
    def test_every_pair_of_one_and_two_classes(self):
        for hierarchy, count in ((KINDS, 1), (WIDE, 1), (KINDS, 2)):
            for first, second in itertools.product(every_point(hierarchy, count), repeat=2):
                with self.subTest(first=first, second=second):
                    wanted = below_by_definition(hierarchy, first, second)
                    self.assertIs(is_point_at_or_below(hierarchy, first, second), wanted)

    def test_three_classes(self):
        for first, second in itertools.product(every_point(KINDS, 3), repeat=2):
            wanted = below_by_definition(KINDS, first, second)
            self.assertIs(is_point_at_or_below(KINDS, first, second), wanted)

    def test_by_name(self):
        self.assertIs(is_point_at_or_below(second=("thing",), first=("ball",), hierarchy=KINDS), True)
        self.assertIs(is_point_at_or_below(second=("ball",), first=("thing",), hierarchy=KINDS), False)

    def test_values_that_are_no_points(self):
        for value in NO_POINTS:
            self.assert_invalid_point(value, is_point_at_or_below, KINDS, value, ("ball",))
            self.assert_invalid_point(value, is_point_at_or_below, KINDS, ("ball",), value)
            self.assert_invalid_point(value, is_point_at_or_below, hierarchy=KINDS, first=("ball",), second=value)

    def test_the_earlier_argument_decides(self):
        self.assert_invalid_point(["ball"], is_point_at_or_below, KINDS, ["ball"], ("x",))
        self.assert_invalid_point(("x",), is_point_at_or_below, KINDS, ("x",), ("ball", "ball"))
        self.assert_invalid_point(("x",), is_point_at_or_below, KINDS, second=(), first=("x",))

    def test_points_of_different_lengths(self):
        for one, two in itertools.permutations((1, 2, 3), 2):
            first, second = ("ball",) * one, ("ball",) * two
            self.assert_invalid_point(second, is_point_at_or_below, KINDS, first, second)

    def test_the_hierarchy_without_classes(self):
        self.assert_invalid_point(("ball",), is_point_at_or_below, EMPTY, ("ball",), ("thing",))


class ListedTest(PointsCase):
    def test_every_list_of_points_of_one_class(self):
        for size in (0, 1, 2, 3, 4):
            for points in itertools.product(every_point(KINDS, 1), repeat=size):
                self.assert_as_defined(KINDS, list(points))

    def test_parts_of_the_points_of_each_length(self):
        for hierarchy, count in ((WIDE, 1), (KINDS, 2), (WIDE, 2), (KINDS, 3), (WIDE, 3)):
            every = every_point(hierarchy, count)
            for step in range(1, 40, 3):
                self.assert_as_defined(hierarchy, every[::-step][:60])
                self.assert_as_defined(hierarchy, (every[step::step] + every[::7])[:60])

    def test_all_hierarchies_of_three_classes(self):
        for hierarchy in support.hierarchies_of(("z", "y", "x")):
            every = every_point(hierarchy, 2)
            for first, second, third in itertools.product(every[::2], every[1::2], every[::-3]):
                self.assert_as_defined(hierarchy, [first, second, third, first])

    def assert_as_defined(self, hierarchy, points):
        before = list(points)
        different = [point for point in every_point(hierarchy, len(points[0]) if points else 1) if point in points]
        tops = [one for one in different if not self.others(hierarchy, one, different, True)]
        ends = [one for one in different if not self.others(hierarchy, one, different, False)]
        with self.subTest(points=points):
            self.assertEqual(listed(hierarchy, points), different)
            self.assertEqual(highest(hierarchy, points), tops)
            self.assertEqual(lowest(hierarchy, points), ends)
            self.assertEqual(points, before)

    def others(self, hierarchy, point, points, is_above):
        """The other points above a point, or below it."""
        found = [other for other in points if other != point]
        if is_above:
            return [other for other in found if below_by_definition(hierarchy, point, other)]
        return [other for other in found if below_by_definition(hierarchy, other, point)]

    def test_listed_by_positions_not_by_letters(self):
        hierarchy = Hierarchy.of(z=(), a=(), m=())
        points = [("m", "a"), ("a", "z"), ("z", "m"), ("m", "z"), ("z", "z"), ("a", "a")]
        wanted = [("z", "z"), ("z", "m"), ("a", "z"), ("a", "a"), ("m", "z"), ("m", "a")]
        self.assertEqual(listed(hierarchy, points), wanted)
        self.assertEqual(highest(hierarchy, points), wanted)
        self.assertEqual(lowest(hierarchy, points), wanted)

    def test_each_point_once(self):
        points = [("ball", "thing"), ("thing", "ball"), ("ball", "thing"), ("ball", "thing")]
        wanted = [("thing", "ball"), ("ball", "thing")]
        for action in (listed, highest, lowest):
            self.assertEqual(action(KINDS, points), wanted)
            self.assertEqual(action(KINDS, [("ball",)] * 5), [("ball",)])

    def test_no_points(self):
        for action in (listed, highest, lowest):
            self.assertEqual(action(KINDS, []), [])
            self.assertEqual(action(EMPTY, []), [])
            self.assertEqual(action(points=[], hierarchy=KINDS), [])

    def test_all_points_of_a_large_hierarchy(self):
        chain = Hierarchy([(name, tuple(support.TWENTY[max(0, at - 1):at])) for at, name in enumerate(support.TWENTY)])
        every = all_points(chain, 3)
        self.assertEqual(listed(chain, every[::-1]), every)
        self.assertEqual(highest(chain, every), [("a", "a", "a")])
        self.assertEqual(lowest(chain, every), [("t", "t", "t")])

    def test_not_a_list(self):
        values = support.STRANGE + support.NUMBERS + support.STRINGS + support.TUPLES
        for value in values + ((("ball",),), (("ball",), ("thing",)), {("ball",): 1}, {("ball",)}, "ball"):
            self.assert_invalid_points(0, KINDS, value)
        self.assert_invalid_points(0, EMPTY, ())

    def test_an_element_that_is_no_point(self):
        good = [("ball",), ("thing",), ("shape",), ("ball",)]
        for value in NO_POINTS:
            for at in range(len(good) + 1):
                self.assert_invalid_points(at, KINDS, good[:at] + [value] + good[at:])
            self.assert_invalid_points(0, KINDS, [value])
            self.assert_invalid_points(0, EMPTY, [value])
        self.assert_invalid_points(0, EMPTY, [("ball",)])

    def test_points_of_different_lengths(self):
        one, two, three = ("ball",), ("ball", "ball"), ("ball", "ball", "ball")
        self.assert_invalid_points(1, KINDS, [one, two])
        self.assert_invalid_points(1, KINDS, [two, one, two])
        self.assert_invalid_points(2, KINDS, [three, three, one])
        self.assert_invalid_points(3, KINDS, [two, two, two, three, three])

    def test_the_first_invalid_element_decides(self):
        self.assert_invalid_points(1, KINDS, [("ball",), ("ball", "ball"), None])
        self.assert_invalid_points(1, KINDS, [("ball",), None, ("ball", "ball")])
        self.assert_invalid_points(0, KINDS, [(), ("ball", "ball"), ("ball",)])

    def test_returned_lists_are_new(self):
        points = [("thing", "ball"), ("ball", "thing"), ("ball", "ball")]
        for action in (listed, highest, lowest):
            self.assert_new(lambda action=action: action(KINDS, points))
        ordered = listed(KINDS, points)
        for action in (listed, highest, lowest):
            self.assertIsNot(action(KINDS, ordered), ordered)
        self.assertEqual(points, [("thing", "ball"), ("ball", "thing"), ("ball", "ball")])


class AllPointsTest(PointsCase):
    def test_each_count(self):
        for hierarchy in (KINDS, WIDE, EMPTY, Hierarchy.of(z=(), a=())):
            for count in (1, 2, 3):
                self.assertEqual(all_points(hierarchy, count), every_point(hierarchy, count))
        self.assertEqual(all_points(EMPTY, 3), [])
        self.assertEqual(all_points(count=2, hierarchy=Hierarchy.of(a=())), [("a", "a")])

    def test_twenty_classes(self):
        hierarchy = Hierarchy([(name, ()) for name in support.TWENTY])
        self.assertEqual([len(all_points(hierarchy, count)) for count in (1, 2, 3)], [20, 400, 8000])

    def test_values_that_are_no_counts(self):
        counts = (0, -1, 4, 5, 10**59, -(10**59), "1", "", "a", b"1", [1], (1,), {1: 1}, ("ball",), [], ())
        for value in support.STRANGE + support.LISTS + support.TUPLES + support.STRINGS + counts:
            for hierarchy in (KINDS, EMPTY):
                with self.subTest(value=value):
                    self.assert_error(InvalidCount, {"value": value}, all_points, hierarchy, value)
                    self.assert_error(InvalidCount, {"value": value}, all_points, count=value, hierarchy=hierarchy)

    def test_returned_lists_are_new(self):
        for count in (1, 2, 3):
            self.assert_new(lambda count=count: all_points(KINDS, count))
        self.assertEqual(KINDS, Hierarchy(support.KINDS))


class PointsBelowTest(PointsCase):
    def test_each_point(self):
        for hierarchy, count in ((KINDS, 1), (KINDS, 2), (KINDS, 3), (WIDE, 1), (WIDE, 2)):
            every = every_point(hierarchy, count)
            for point in every:
                with self.subTest(point=point):
                    wanted = [other for other in every if below_by_definition(hierarchy, other, point)]
                    self.assertEqual(points_at_or_below(hierarchy, point), wanted)
        self.assertEqual(points_at_or_below(point=("ball",), hierarchy=KINDS), [("ball",)])

    def test_values_that_are_no_points(self):
        for value in NO_POINTS:
            for hierarchy in (KINDS, EMPTY):
                self.assert_invalid_point(value, points_at_or_below, hierarchy, value)
                self.assert_invalid_point(value, points_at_or_below, point=value, hierarchy=hierarchy)
        self.assert_invalid_point(("ball",), points_at_or_below, EMPTY, ("ball",))

    def test_returned_lists_are_new(self):
        self.assert_new(lambda: points_at_or_below(KINDS, ("shape", "thing", "ball")))
        self.assert_new(lambda: points_at_or_below(KINDS, ("thing",)))


class CommonPointsTest(PointsCase):
    def common_by_definition(self, hierarchy, points):
        common = [
            point
            for point in every_point(hierarchy, len(points[0]))
            if all(below_by_definition(hierarchy, point, other) for other in points)
        ]
        return [
            point
            for point in common
            if not any(other != point and below_by_definition(hierarchy, point, other) for other in common)
        ]

    def assert_as_defined(self, hierarchy, points):
        with self.subTest(points=points):
            wanted = self.common_by_definition(hierarchy, points)
            self.assertEqual(highest_common_points(hierarchy, *points), wanted)

    def test_one_and_several_points_of_one_class(self):
        for size in (1, 2, 3):
            for points in itertools.product(every_point(WIDE, 1), repeat=size):
                self.assert_as_defined(WIDE, points)

    def test_points_of_two_and_three_classes(self):
        for points in itertools.product(every_point(KINDS, 2), repeat=2):
            self.assert_as_defined(KINDS, points)
        wide = every_point(WIDE, 2)
        for points in itertools.product(wide[::5], wide[::7]):
            self.assert_as_defined(WIDE, points)
        kinds = every_point(KINDS, 3)
        for points in itertools.product(kinds[::5], kinds[::7], kinds[::31]):
            self.assert_as_defined(KINDS, points)

    def test_several_highest_ones_as_listed(self):
        wanted = [("c", "n"), ("c", "o"), ("d", "n"), ("d", "o")]
        self.assertEqual(highest_common_points(WIDE, ("a", "d"), ("b", "e")), wanted)
        self.assertEqual(highest_common_points(WIDE, ("b", "e"), ("a", "d"), ("b", "d"), ("a", "e")), wanted)
        self.assertEqual(highest_common_points(WIDE, ("m", "a"), ("o", "a")), [])

    def test_by_name_and_repeated(self):
        self.assertEqual(highest_common_points(hierarchy=KINDS, first=("solid",)), [("solid",)])
        self.assertEqual(highest_common_points(KINDS, *[("solid", "ball")] * 9), [("solid", "ball")])

    def test_values_that_are_no_points(self):
        for value in NO_POINTS:
            self.assert_invalid_point(value, highest_common_points, KINDS, value)
            self.assert_invalid_point(value, highest_common_points, KINDS, value, ("ball",))
            self.assert_invalid_point(value, highest_common_points, KINDS, ("ball",), value)
            self.assert_invalid_point(value, highest_common_points, KINDS, ("ball",), ("thing",), value, ("x",))
            self.assert_invalid_point(value, highest_common_points, EMPTY, value)

    def test_points_of_different_lengths(self):
        two = ("ball", "ball")
        self.assert_invalid_point(two, highest_common_points, KINDS, ("ball",), two)
        self.assert_invalid_point(("ball",), highest_common_points, KINDS, two, two, ("ball",), ("x",))
        self.assert_invalid_point(("ball",) * 3, highest_common_points, KINDS, two, ("ball",) * 3, ("ball",))

    def test_the_first_wrong_value_decides(self):
        self.assert_invalid_point(("x",), highest_common_points, KINDS, ("ball",), ("x",), ("ball", "ball"))
        self.assert_invalid_point(("ball", "ball"), highest_common_points, KINDS, ("ball",), ("ball", "ball"), ("x",))
        self.assert_invalid_point([], highest_common_points, KINDS, [], {})

    def test_returned_lists_are_new(self):
        self.assert_new(lambda: highest_common_points(KINDS, ("shape", "thing"), ("solid", "thing")))
        self.assert_new(lambda: highest_common_points(WIDE, ("a", "d", "m"), ("b", "e", "m")))


if __name__ == "__main__":
    unittest.main()
