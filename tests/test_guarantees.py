"""BEST FOR LATER CLASSES and THREATS EXACT of point [4]; the other guarantees stand with what they speak of."""

import itertools
import random
import unittest

import support
from fewestmethods.calls import answers
from fewestmethods.calls import call
from fewestmethods.calls import status
from fewestmethods.comparison import is_equal_in_calls
from fewestmethods.conflicts import is_settled
from fewestmethods.futures import class_plan
from fewestmethods.hierarchy import Hierarchy
from fewestmethods.reduction import reduced
from fewestmethods.tables import MethodTable
from fewestmethods.threats import is_safe
from fewestmethods.threats import threats

BODIES = (None, (("say", "x"),), (("say", "y"),))


def later_classes(source, table, amount):
    """Rows of classes that can be added to a table one after the other."""
    names = table.hierarchy().names()
    rows = []
    for name in ("newa", "newb", "newc")[:amount]:
        rows.append((name, tuple(source.sample(names, min(len(names), source.randint(0, 4))))))
        names.append(name)
    return rows


def with_classes(table, rows):
    for name, superclasses in rows:
        table = table.with_class(name, superclasses)
    return table


def settled_samples(seed, amount):
    tables = [MethodTable(Hierarchy(rows), count, methods) for rows, count, methods in support.samples(seed, amount)]
    return [table for table in tables if is_settled(table)]


class LaterClassesTest(support.Case):
    def assert_best(self, table, other, rows):
        """What the table or the other one answers then, the reduced table answers in the same way."""
        best = with_classes(reduced(table), rows)
        for one in (with_classes(table, rows), with_classes(other, rows)):
            for point, word in answers(one):
                if word == "answered":
                    self.assertEqual(status(best, point), "answered")
                    self.assertEqual(call(best, point), call(one, point))

    def test_samples(self):
        source = random.Random(91)
        for table in settled_samples(92, 200):
            self.assertIs(is_equal_in_calls(table, reduced(table)), True)
            for amount in (1, 2, 3):
                self.assert_best(table, table, later_classes(source, table, amount))

    def test_all_tables_with_the_same_calls(self):
        source = random.Random(93)
        compared = 0
        for hierarchy in support.hierarchies_of(("z", "y", "x", "w"))[::7]:
            by_calls = {}
            for bodies in itertools.product(BODIES, repeat=4):
                methods = {(name,): body for name, body in zip("zyxw", bodies) if body is not None}
                table = MethodTable(hierarchy, 1, methods)
                if is_settled(table):
                    shown = repr([call(table, point) if word == "answered" else word for point, word in answers(table)])
                    by_calls.setdefault(shown, []).append(table)
            for tables in by_calls.values():
                compared += len(tables) > 1
                rows = later_classes(source, tables[0], 2)
                for other in tables:
                    self.assertIs(is_equal_in_calls(tables[0], other), True)
                    self.assert_best(tables[-1], other, rows)
        self.assertGreater(compared, 50)


class ThreatsExactTest(support.Case):
    def test_a_safe_table_stays_settled(self):
        source = random.Random(94)
        safe = [table for table in settled_samples(95, 250) if is_safe(table)]
        self.assertGreater(len(safe), 50)
        for table, amount in itertools.product(safe, (1, 2, 3)):
            rows = later_classes(source, table, amount)
            with self.subTest(table=table, rows=rows):
                self.assertIs(is_settled(with_classes(table, rows)), True)

    def test_all_pairs_of_superclasses_of_a_safe_table(self):
        for table in settled_samples(96, 120):
            names = table.hierarchy().names()
            later = [table.with_class("new", pair) for pair in itertools.combinations(names, 2)]
            if is_safe(table):
                self.assertTrue(all(is_settled(one) for one in later))
            elif table.count() == 1:
                self.assertFalse(all(is_settled(one) for one in later))

    def test_a_threat_can_be_brought_about(self):
        unsafe = [table for table in settled_samples(97, 200) if not is_safe(table)]
        self.assertGreater(len(unsafe), 20)
        for table in unsafe:
            for first, second in threats(table):
                classes, point = class_plan(table, first, second)
                with self.subTest(table=table, first=first, second=second):
                    self.assertEqual(status(with_classes(table, classes), point), "ambiguous")
                    self.assertTrue(classes)


if __name__ == "__main__":
    unittest.main()
