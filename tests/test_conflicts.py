"""Conflicts, point [17], and CONFLICTS NEEDED of point [4]."""

import itertools
import unittest

import support
from fewestmethods.conflicts import conflicts
from fewestmethods.conflicts import is_settled
from fewestmethods.hierarchy import Hierarchy
from fewestmethods.points import highest_common_points
from fewestmethods.tables import MethodTable

KINDS = Hierarchy(support.KINDS)
WIDE = Hierarchy(support.WIDE)
NEXT = (("next",),)
SAY = (("say", "a"),)
TELL = (("say", "b"),)
CRY = (("say", "c"),)


class ConflictsTest(support.Case):
    def assert_conflicts(self, wanted, table):
        with self.subTest(table=table):
            self.assert_same(conflicts(table), wanted)
            self.assert_same(conflicts(table=table), wanted)
            self.assertIs(is_settled(table), wanted == [])
            self.assertIs(is_settled(table=table), wanted == [])

    def test_samples(self):
        several = 0
        for rows, count, methods in support.samples(51, 300):
            table = MethodTable(Hierarchy(rows), count, methods)
            wanted = support.Reference(rows, count, methods).conflicts()
            self.assert_conflicts(wanted, table)
            several += len(wanted) > 1
            pairs = list(itertools.combinations(table.points(), 2))
            for point in wanted:
                found = [pair for pair in pairs if point in highest_common_points(table.hierarchy(), *pair)]
                self.assertTrue(found)
        self.assertGreater(several, 10)

    def test_one_parameter(self):
        self.assert_conflicts([("ball",)], MethodTable(KINDS, 1, {("shape",): SAY, ("solid",): TELL}))
        self.assert_conflicts([], MethodTable(KINDS, 1, {("shape",): SAY, ("solid",): SAY}))
        self.assert_conflicts([], MethodTable(KINDS, 1, {("shape",): SAY, ("solid",): TELL, ("ball",): SAY}))
        self.assert_conflicts([], MethodTable(KINDS, 1, {("thing",): SAY, ("solid",): TELL}))

    def test_several_conflicts_and_ambiguous_points_below_them(self):
        table = MethodTable(WIDE, 1, {("a",): SAY, ("b",): TELL})
        self.assert_conflicts([("c",), ("d",)], table)
        self.assert_conflicts([("d",)], table.with_method(("c",), CRY))
        self.assert_conflicts([("m",)], table.with_method(("c",), CRY).with_method(("d",), ()))
        self.assert_conflicts([("c",), ("d",)], table.with_method(("e",), CRY))
        self.assert_conflicts([("n",), ("o",)], MethodTable(WIDE, 1, {("a",): SAY, ("e",): CRY}))

    def test_a_conflict_below_a_decided_one(self):
        chain = Hierarchy.of(a=(), b=(), c=("a", "b"), d=("c",), e=("d", "a"))
        table = MethodTable(chain, 1, {("a",): SAY, ("b",): TELL})
        self.assert_conflicts([("c",)], table)
        self.assert_conflicts([], table.with_method(("c",), ()))

    def test_two_parameters(self):
        table = MethodTable(KINDS, 2, {("thing", "shape"): SAY, ("shape", "thing"): TELL})
        self.assert_conflicts([("shape", "shape")], table)
        wide = MethodTable(WIDE, 2, {("a", "a"): SAY, ("b", "b"): TELL})
        self.assert_conflicts([("c", "c"), ("c", "d"), ("d", "c"), ("d", "d")], wide)

    def test_three_parameters(self):
        table = MethodTable(KINDS, 3, {
            ("thing", "thing", "ball"): SAY, ("thing", "ball", "thing"): TELL, ("ball", "thing", "thing"): CRY,
        })
        wanted = [("thing", "ball", "ball"), ("ball", "thing", "ball"), ("ball", "ball", "thing")]
        self.assert_conflicts(wanted, table)

    def test_tables_without_methods(self):
        for count in (1, 2, 3):
            self.assert_conflicts([], MethodTable(KINDS, count))
            self.assert_conflicts([], MethodTable(Hierarchy(), count))

    def test_expansions_count_not_bodies(self):
        same = MethodTable(KINDS, 1, {("thing",): SAY, ("shape",): NEXT + TELL, ("solid",): SAY + TELL})
        self.assert_conflicts([], same)
        other = MethodTable(WIDE, 1, {("a",): SAY, ("b",): TELL, ("c",): CRY, ("d",): CRY, ("m",): NEXT + SAY, ("o",): NEXT})
        self.assert_conflicts([], other)
        self.assert_conflicts([("n",), ("o",)], other.without_method(("o",)).with_method(("e",), SAY))

    def test_returned_lists_are_new(self):
        table = MethodTable(WIDE, 1, {("a",): SAY, ("b",): TELL})
        conflicts(table).clear()
        self.assertEqual(conflicts(table), [("c",), ("d",)])

    def test_every_way_to_settle_a_table_has_a_method_at_each_conflict(self):
        ways = 0
        bodies = (None, SAY, TELL, CRY)
        for hierarchy in support.hierarchies_of(("z", "y", "x", "w"))[::3]:
            rows = [(name, hierarchy.superclasses(name)) for name in hierarchy.names()]
            before = support.Reference(rows, 1, {("z",): SAY, ("y",): TELL})
            needed = conflicts(MethodTable(hierarchy, 1, before.methods))
            for third, fourth in itertools.product(bodies, repeat=2):
                more = {("x",): third, ("w",): fourth}
                added = {point: body for point, body in more.items() if body is not None}
                after = support.Reference(rows, 1, {**before.methods, **added})
                calls = [before.outcome(point) for point in before.every]
                keeps = [call == after.outcome(point) for point, call in zip(before.every, calls) if call[0] == "answered"]
                if all(keeps) and is_settled(MethodTable(hierarchy, 1, after.methods)):
                    ways += needed != []
                    self.assertLessEqual(set(needed), set(added))
        self.assertGreater(ways, 20)


if __name__ == "__main__":
    unittest.main()
