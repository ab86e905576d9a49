"""Receipts, point [21], and RECEIPTS EXACT of point [4] for tables."""

import itertools
import random
import unittest

import support
from fewestmethods.calls import call
from fewestmethods.calls import rivals
from fewestmethods.errors import Ambiguous
from fewestmethods.errors import InvalidPoint
from fewestmethods.errors import InvalidReceipt
from fewestmethods.errors import NoMethod
from fewestmethods.hierarchy import Hierarchy
from fewestmethods.receipts import covered_points
from fewestmethods.receipts import covers
from fewestmethods.receipts import is_receipt
from fewestmethods.receipts import receipt_at
from fewestmethods.tables import MethodTable

KINDS = Hierarchy(support.KINDS)
WIDE = Hierarchy(support.WIDE)
A = (("say", "a"),)
B = (("say", "b"),)
TABLE = MethodTable(KINDS, 1, {("thing",): A, ("solid",): B})
PAIRS = MethodTable(KINDS, 2, {
    ("thing", "thing"): A, ("shape", "thing"): B, ("thing", "shape"): B, ("ball", "ball"): A, ("solid", "thing"): B,
})


def receipt_by_definition(reference, point):
    """Point [21], in the words of the document, for the point of a method."""
    below = [other for other in reference.listed if other != point and reference.is_at_or_below(other, point)]
    return point, tuple(reference.highest(below))


def covered_by_definition(reference, receipt):
    point, fences = receipt
    return [
        other
        for other in reference.every
        if reference.is_at_or_below(other, point) and not any(reference.is_at_or_below(other, fence) for fence in fences)
    ]


def tables_with_references(seed, amount):
    return [
        (MethodTable(Hierarchy(rows), count, methods), support.Reference(rows, count, methods))
        for rows, count, methods in support.samples(seed, amount)
    ]


class ReceiptAtTest(support.Case):
    def test_every_point_of_samples(self):
        seen = {"answered": 0, "fences": 0, "several": 0}
        for table, reference in tables_with_references(701, 400):
            for point in reference.every:
                word = reference.outcome(point)[0]
                if word == "none":
                    self.assert_raises(NoMethod, point, receipt_at, table, point)
                elif word == "ambiguous":
                    self.assert_error(
                        Ambiguous, {"point": point, "rivals": reference.rivals(point)}, receipt_at, table, point
                    )
                else:
                    wanted = receipt_by_definition(reference, reference.rivals(point)[0])
                    self.assert_same(receipt_at(table, point), wanted)
                    seen["answered"] += 1
                    seen["fences"] += len(wanted[1]) > 1
                    seen["several"] += len(reference.rivals(point)) > 1
        self.assertGreater(min(seen.values()), 20, seen)

    def test_the_first_of_several_rivals(self):
        table = MethodTable(KINDS, 1, {("solid",): A, ("shape",): A})
        self.assert_same(receipt_at(table, ("ball",)), (("shape",), ()))
        self.assert_same(receipt_at(table, ("solid",)), (("solid",), ()))
        pairs = MethodTable(KINDS, 2, {("thing", "solid"): A, ("solid", "thing"): A, ("ball", "solid"): B})
        self.assert_same(receipt_at(pairs, ("solid", "solid")), (("thing", "solid"), (("ball", "solid"),)))
        self.assert_same(receipt_at(pairs, ("ball", "ball")), (("ball", "solid"), ()))

    def test_fences_are_the_highest_methods_below_as_listed(self):
        self.assert_same(
            receipt_at(PAIRS, ("thing", "solid")),
            (("thing", "thing"), (("thing", "shape"), ("shape", "thing"), ("solid", "thing"))),
        )
        self.assert_same(receipt_at(PAIRS, ("shape", "solid")), (("shape", "thing"), (("ball", "ball"),)))
        self.assert_same(receipt_at(PAIRS, ("ball", "ball")), (("ball", "ball"), ()))

    def test_three_parameters(self):
        table = MethodTable(KINDS, 3, {
            ("thing", "thing", "thing"): A, ("ball", "ball", "ball"): B, ("ball", "thing", "thing"): A,
        })
        self.assert_same(
            receipt_at(table, ("solid", "ball", "ball")), (("thing", "thing", "thing"), (("ball", "thing", "thing"),))
        )
        self.assert_same(
            receipt_at(table, ("ball", "ball", "solid")), (("ball", "thing", "thing"), (("ball", "ball", "ball"),))
        )

    def test_values_that_are_no_points_of_the_table(self):
        for value in support.NO_POINTS + (("ball", "ball"), ("a",)):
            self.assert_raises(InvalidPoint, value, receipt_at, TABLE, value)
            self.assert_raises(InvalidPoint, value, receipt_at, MethodTable(KINDS, 1), value)

    def test_no_call_and_ambiguous(self):
        self.assert_raises(NoMethod, ("thing",), receipt_at, MethodTable(KINDS, 1), ("thing",))
        self.assert_raises(NoMethod, ("shape",), receipt_at, TABLE.without_method(("thing",)), ("shape",))
        split = TABLE.with_method(("shape",), A)
        rivaling = [("shape",), ("solid",)]
        self.assert_error(Ambiguous, {"point": ("ball",), "rivals": rivaling}, receipt_at, split, ("ball",))


class IsReceiptTest(support.Case):
    def test_receipts_of_samples(self):
        for table, reference in tables_with_references(702, 90):
            for point in reference.every:
                receipt = receipt_by_definition(reference, point) if point in reference.methods else (point, ())
                self.assertIs(is_receipt(table, receipt), point in reference.methods)

    def test_near_receipts(self):
        top = ("thing", "thing")
        fences = (("thing", "shape"), ("shape", "thing"), ("solid", "thing"))
        self.assertIs(is_receipt(PAIRS, (top, fences)), True)
        wrong = [(top, chosen) for size in range(4) for chosen in itertools.permutations(fences, size) if chosen != fences]
        wrong += [(top, fences + (("ball", "ball"),)), (top, fences + fences[:1]), (top, (top,)), (top, fences + (top,))]
        wrong += [(("thing", "solid"), ()), (("ball", "thing"), (("ball", "ball"),)), (("ball", "ball"), fences)]
        wrong += [[top, fences], (list(top), fences), (top, list(fences)), (top, (list(fences[0]), *fences[1:]))]
        wrong += [(top,), (fences,), (top, fences, ()), (top, fences, top), (fences, top), (top, top), top, fences, ()]
        wrong += [(("thing",), ()), (("thing", "thing", "thing"), ()), (top, (*fences[:2], ("solid",))), (top, None)]
        wrong += [(top, fences[0]), (top, {fence: True for fence in fences}), (top, "ab"), ("ab", fences), (top, (None,))]
        wrong += [(top, (*fences[:2], ("solid", "cube"))), (("cube", "thing"), ()), ((top,), fences), (top, (fences,))]
        for value in wrong:
            with self.subTest(value=value):
                self.assertIs(is_receipt(PAIRS, value), False)

    def test_values_of_any_other_kind(self):
        for value in support.NO_POINTS + support.TUPLES:
            self.assertIs(is_receipt(TABLE, value), False)
            for near in ((value, ()), (("thing",), value), (("thing",), (value,)), (value, value), (("solid",), (value,))):
                if near not in ((("thing",), (("solid",),)), (("solid",), ())):
                    with self.subTest(value=near):
                        self.assertIs(is_receipt(TABLE, near), False)

    def test_a_receipt_of_another_table(self):
        later = TABLE.with_method(("ball",), A)
        self.assertIs(is_receipt(later, (("solid",), ())), False)
        self.assertIs(is_receipt(later, (("solid",), (("ball",),))), True)
        self.assertIs(is_receipt(TABLE, (("ball",), ())), False)


class CoversTest(support.Case):
    def test_receipts_cover_where_their_methods_are_rivals(self):
        for table, reference in tables_with_references(703, 120):
            for method in reference.listed:
                receipt = receipt_by_definition(reference, method)
                wanted = [point for point in reference.every if method in rivals(table, point)]
                self.assert_same(covered_points(table, receipt), wanted)
                for point in reference.every:
                    self.assertIs(covers(table, receipt, point), point in wanted)

    def test_any_points_and_fences(self):
        source = random.Random(704)
        without, foreign = 0, 0
        for table, reference in tables_with_references(705, 120):
            fences = tuple(source.choices(reference.every, k=source.randint(0, 4)))
            receipt = (source.choice(reference.every), fences)
            without += not fences
            foreign += any(not reference.is_at_or_below(fence, receipt[0]) for fence in fences)
            wanted = covered_by_definition(reference, receipt)
            self.assert_same(covered_points(table, receipt), wanted)
            for point in reference.every:
                self.assertIs(covers(table, receipt, point), point in wanted)
        self.assertGreater(min(without, foreign), 10)

    def test_edges(self):
        self.assert_same(covered_points(TABLE, (("thing",), ())), [("thing",), ("shape",), ("solid",), ("ball",)])
        self.assert_same(covered_points(TABLE, (("thing",), (("thing",),))), [])
        self.assert_same(covered_points(TABLE, (("solid",), (("thing",),))), [])
        self.assert_same(covered_points(TABLE, (("solid",), (("shape",),))), [("solid",)])
        self.assert_same(covered_points(TABLE, (("shape",), (("ball",), ("ball",)))), [("shape",)])
        self.assertIs(covers(TABLE, (("thing",), (("shape",),)), ("ball",)), False)
        self.assertIs(covers(TABLE, (("shape",), ()), ("thing",)), False)
        self.assertIs(covers(MethodTable(KINDS, 1), (("thing",), ()), ("ball",)), True)

    def test_values_that_have_not_the_form_of_a_receipt(self):
        point = ("thing",)
        wrong = list(support.NO_POINTS) + [point, (point,), (point, (), ()), [point, ()], (point, []), (["thing"], ())]
        wrong += [(point, point), (point, (["ball"],)), (point, ((),)), (point, (None,)), (point, (("x",),)), (("x",), ())]
        wrong += [(point, (point, ("ball", "ball"))), (("ball", "ball"), ()), (point, None), (None, ()), (point, ([],))]
        wrong += [(point, {}), (point, "ball"), ("thing", ()), (point, True), (point, 0), ((point,), ())]
        for value in wrong:
            self.assert_raises(InvalidReceipt, value, covered_points, TABLE, value)
            self.assert_raises(InvalidReceipt, value, covers, TABLE, value, point)

    def test_values_that_are_no_points_of_the_table(self):
        for value in support.NO_POINTS + (("ball", "ball"), ("a",)):
            self.assert_raises(InvalidPoint, value, covers, TABLE, (("thing",), ()), value)
            self.assert_raises(InvalidReceipt, (("thing",), [], ()), covers, TABLE, (("thing",), [], ()), value)

    def test_results_are_new(self):
        receipt = (("thing",), (("solid",),))
        covered_points(TABLE, receipt).append(("ball",))
        self.assertEqual(covered_points(TABLE, receipt), [("thing",), ("shape",)])

    def test_a_covered_point_can_be_ambiguous(self):
        split = TABLE.with_method(("shape",), A)
        self.assertIs(covers(split, receipt_at(split, ("shape",)), ("ball",)), True)
        self.assertEqual(call(split, ("shape",)), A)


class NamedArgumentsTest(support.Case):
    def test_named(self):
        self.assertEqual(receipt_at(point=("shape",), table=TABLE), (("thing",), (("solid",),)))
        self.assertIs(is_receipt(value=(("solid",), ()), table=TABLE), True)
        self.assertIs(covers(point=("ball",), receipt=(("solid",), ()), table=TABLE), True)
        self.assertEqual(covered_points(receipt=(("solid",), ()), table=TABLE), [("solid",), ("ball",)])


if __name__ == "__main__":
    unittest.main()
