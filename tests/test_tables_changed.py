"""Tables changed: with_method, without_method, with_class and without_class."""

import itertools
import unittest

import support
from fewestmethods.errors import InUse
from fewestmethods.errors import InvalidBody
from fewestmethods.errors import InvalidName
from fewestmethods.errors import InvalidPoint
from fewestmethods.errors import InvalidSuperclasses
from fewestmethods.errors import NameTaken
from fewestmethods.errors import NoNext
from fewestmethods.errors import NotFound
from fewestmethods.errors import TooMany
from fewestmethods.hierarchy import Hierarchy
from fewestmethods.tables import MethodTable

KINDS = Hierarchy(support.KINDS)
WIDE = Hierarchy(support.WIDE)
FLAT = Hierarchy([(letter, ()) for letter in support.TWENTY])
SAY = (("say", "a"),)
TELL = (("say", "b"),)
NEXT = (("next",),)
METHODS = {("thing",): SAY, ("solid",): TELL, ("ball",): NEXT + SAY}
PAIRS = list(itertools.product(support.TWENTY, repeat=2))
NO_BODIES = support.STRANGE + support.LISTS + support.NUMBERS + (
    "say a", ("say", "a"), ("next",), [("say", "a")], (["next"],), (("next",), ("next",)), (("call", "f", (1,)),),
    (("call", "f", (True,)),), (("say", "A"),),
)


class ChangedCase(support.Case):
    def setUp(self):
        self.table = MethodTable(KINDS, 1, METHODS)
        self.full = MethodTable(FLAT, 2, {point: SAY for point in PAIRS[:40]})

    def tearDown(self):
        """No edit has changed the tables that it began with."""
        self.assertEqual(self.table, MethodTable(KINDS, 1, METHODS))
        self.assertEqual(repr(self.table), repr(MethodTable(KINDS, 1, METHODS)))
        self.assertEqual(self.full.points(), PAIRS[:40])


class WithMethodTest(ChangedCase):
    def test_added(self):
        later = self.table.with_method(("shape",), TELL)
        self.assertIsInstance(later, MethodTable)
        self.assertEqual(later.points(), [("thing",), ("shape",), ("solid",), ("ball",)])
        self.assertEqual(later, MethodTable(KINDS, 1, {**METHODS, ("shape",): TELL}))
        self.assertEqual(self.table.with_method(body=TELL, point=("shape",)), later)

    def test_replaced(self):
        later = self.table.with_method(("solid",), NEXT + TELL)
        self.assertEqual(later.points(), self.table.points())
        self.assertEqual(later.body(("solid",)), NEXT + TELL)
        self.assertEqual(later, MethodTable(KINDS, 1, {**METHODS, ("solid",): NEXT + TELL}))
        self.assertEqual(self.table.with_method(("solid",), TELL), self.table)

    def test_tables_from_one_are_independent(self):
        left = self.table.with_method(("shape",), TELL)
        right = self.table.with_method(("thing",), ())
        self.assertEqual(len(left), 4)
        self.assertEqual(len(right), 3)
        self.assertEqual(left.body(("thing",)), SAY)
        self.assertEqual(right.body(("thing",)), ())

    def test_three_parameters(self):
        table = MethodTable(WIDE, 3)
        for point in (("n", "a", "b"), ("a", "a", "b"), ("c", "o", "e")):
            table = table.with_method(point, (("call", "f", (0, 1, 2)),))
        self.assertEqual(table.points(), [("a", "a", "b"), ("c", "o", "e"), ("n", "a", "b")])

    def test_values_that_are_no_points_of_the_table(self):
        for value in support.NO_POINTS + (("ball", "ball"), ("ball", "ball", "ball"), ("a",)):
            self.assert_raises(InvalidPoint, value, self.table.with_method, value, SAY)
            self.assert_raises(InvalidPoint, value, self.table.with_method, value, None)
        self.assert_raises(InvalidPoint, ("a",), self.full.with_method, ("a",), SAY)
        self.assert_raises(InvalidPoint, ("a", "b", "c"), self.full.with_method, ("a", "b", "c"), NEXT)

    def test_values_that_are_no_bodies(self):
        for value in NO_BODIES:
            self.assert_raises(InvalidBody, value, self.table.with_method, ("ball",), value)
            self.assert_raises(InvalidBody, value, self.table.with_method, ("shape",), value)
        two = MethodTable(KINDS, 2)
        body = (("call", "f", (1,)),)
        self.assertEqual(two.with_method(("ball", "ball"), body).body(("ball", "ball")), body)
        self.assert_raises(InvalidBody, (("call", "f", (2,)),), two.with_method, ("ball", "ball"), (("call", "f", (2,)),))

    def test_forty_methods(self):
        self.assert_raises(TooMany, 40, self.full.with_method, ("t", "t"), SAY)
        replaced = self.full.with_method(("a", "c"), TELL)
        self.assertEqual(len(replaced), 40)
        self.assertEqual(replaced.body(("a", "c")), TELL)
        again = self.full.without_method(("a", "a")).with_method(("t", "t"), SAY)
        self.assertEqual(again.points(), PAIRS[1:40] + [("t", "t")])

    def test_no_next(self):
        self.assert_raises(NoNext, ("thing",), self.table.with_method, ("thing",), NEXT)
        empty = MethodTable(KINDS, 1)
        self.assert_raises(NoNext, ("ball",), empty.with_method, ("ball",), SAY + NEXT)

    def test_an_edit_that_takes_away_the_next_of_another_method(self):
        self.assert_raises(NoNext, ("ball",), self.table.with_method, ("shape",), SAY)
        crossed = MethodTable(KINDS, 2, {("thing", "ball"): SAY, ("ball", "ball"): NEXT})
        self.assert_raises(NoNext, ("ball", "ball"), crossed.with_method, ("ball", "thing"), TELL)
        split = MethodTable(KINDS, 1, {("shape",): SAY, ("solid",): SAY, ("ball",): NEXT})
        self.assert_raises(NoNext, ("ball",), split.with_method, ("shape",), TELL)

    def test_an_edit_that_changes_the_next_of_another_method(self):
        later = self.table.with_method(("solid",), ())
        self.assertEqual(later.body(("ball",)), NEXT + SAY)
        nearer = MethodTable(KINDS, 1, {("thing",): SAY, ("ball",): NEXT}).with_method(("solid",), TELL)
        self.assertEqual(nearer.body(("ball",)), NEXT)
        self.assertEqual(len(nearer), 3)

    def test_the_first_method_without_a_next_is_not_the_changed_one(self):
        table = MethodTable(WIDE, 1, {("a",): SAY, ("c",): NEXT, ("d",): NEXT, ("m",): NEXT})
        self.assert_raises(NoNext, ("c",), table.with_method, ("b",), TELL)
        self.assert_raises(NoNext, ("b",), table.with_method, ("b",), NEXT)
        self.assert_raises(NoNext, ("m",), table.with_method, ("d",), TELL)

    def test_two_errors_at_once(self):
        self.assert_raises(InvalidPoint, ["ball"], self.table.with_method, ["ball"], [])
        self.assert_raises(InvalidPoint, ("x", "x"), self.full.with_method, ("x", "x"), SAY)
        self.assert_raises(InvalidBody, [], self.full.with_method, ("t", "t"), [])
        self.assert_raises(TooMany, 40, self.full.with_method, ("t", "t"), NEXT)
        self.assert_raises(InvalidBody, NEXT + NEXT, self.table.with_method, ("thing",), NEXT + NEXT)


class WithoutMethodTest(ChangedCase):
    def test_removed(self):
        later = self.table.without_method(("thing",))
        self.assertIsInstance(later, MethodTable)
        self.assertEqual(later, MethodTable(KINDS, 1, {("solid",): TELL, ("ball",): NEXT + SAY}))
        self.assertEqual(self.table.without_method(point=("ball",)).points(), [("thing",), ("solid",)])
        last = later.without_method(("ball",)).without_method(("solid",))
        self.assertEqual(last, MethodTable(KINDS, 1))

    def test_added_and_removed(self):
        self.assertEqual(self.table.with_method(("shape",), TELL).without_method(("shape",)), self.table)

    def test_values_that_are_no_methods(self):
        for value in support.NO_POINTS + (("shape",), ("thing", "thing"), ["thing"], ("thing", [])):
            self.assert_raises(NotFound, value, self.table.without_method, value)
        self.assert_raises(NotFound, ("thing",), MethodTable(KINDS, 1).without_method, ("thing",))

    def test_a_next_that_is_taken_away(self):
        table = MethodTable(KINDS, 1, {("thing",): SAY, ("ball",): NEXT})
        self.assert_raises(NoNext, ("ball",), table.without_method, ("thing",))
        middle = {("a",): SAY, ("b",): TELL, ("d",): (), ("m",): NEXT, ("o",): NEXT}
        self.assert_raises(NoNext, ("m",), MethodTable(WIDE, 1, middle).without_method, ("d",))
        chain = {("thing",): SAY, ("solid",): NEXT, ("ball",): NEXT}
        self.assert_raises(NoNext, ("solid",), MethodTable(KINDS, 1, chain).without_method, ("thing",))

    def test_a_next_that_changes(self):
        later = self.table.without_method(("solid",))
        self.assertEqual(later, MethodTable(KINDS, 1, {("thing",): SAY, ("ball",): NEXT + SAY}))

    def test_two_errors_at_once(self):
        table = MethodTable(KINDS, 1, {("thing",): SAY, ("ball",): NEXT})
        self.assert_raises(NotFound, ("shape",), table.without_method, ("shape",))


class WithClassTest(ChangedCase):
    def test_one_more_class(self):
        for name, superclasses in (("cube", ()), ("cube", ("solid",)), ("cone", ("ball", "thing"))):
            later = self.table.with_class(name, superclasses)
            self.assertIsInstance(later, MethodTable)
            self.assertEqual(later, MethodTable(KINDS.with_class(name, superclasses), 1, METHODS))
            self.assertEqual(later.points(), self.table.points())
        self.assertEqual(self.table.with_class("cube"), self.table.with_class(superclasses=(), name="cube"))

    def test_methods_at_the_new_class(self):
        later = self.table.with_class("cube", ("solid",)).with_method(("cube",), NEXT)
        self.assertEqual(later.points(), [("thing",), ("solid",), ("ball",), ("cube",)])
        self.assert_raises(InvalidPoint, ("cube",), self.table.with_method, ("cube",), SAY)

    def test_errors(self):
        for value in support.NO_CLASSES:
            if value != "unknown":
                self.assert_raises(InvalidName, value, self.table.with_class, value, None)
        for name in KINDS.names():
            self.assert_raises(NameTaken, name, self.table.with_class, name)
            self.assert_raises(NameTaken, name, self.table.with_class, name, ["x"])
        for value in (None, "solid", ["solid"], [], {}, ("x",), ("solid", "solid"), (0,), ([],), (("solid",),)):
            self.assert_raises(InvalidSuperclasses, value, self.table.with_class, "cube", value)
            self.assert_raises(InvalidSuperclasses, value, self.full.with_class, "x", value)
        self.assert_raises(TooMany, 20, self.full.with_class, "x")
        self.assert_raises(NameTaken, "a", self.full.with_class, "a", ("x",))


class WithoutClassTest(ChangedCase):
    def test_one_class_less(self):
        table = MethodTable(KINDS, 1, {("thing",): SAY, ("solid",): NEXT})
        later = table.without_class("ball")
        self.assertIsInstance(later, MethodTable)
        self.assertEqual(later, MethodTable(Hierarchy(support.KINDS[:3]), 1, {("thing",): SAY, ("solid",): NEXT}))
        self.assertEqual(later.without_class(name="shape").hierarchy().names(), ["thing", "solid"])
        self.assertEqual(table.with_class("cube", ("ball",)).without_class("cube"), table)
        self.assertEqual(MethodTable(KINDS, 3).without_class("ball").count(), 3)

    def test_values_that_are_no_classes(self):
        for value in support.NO_CLASSES:
            self.assert_raises(NotFound, value, self.table.without_class, value)
        self.assert_raises(NotFound, "ball", MethodTable(Hierarchy(), 1).without_class, "ball")

    def test_superclasses_of_other_classes(self):
        self.assert_raises(InUse, "shape", self.table.without_class, "thing")
        self.assert_raises(InUse, "ball", self.table.without_class, "solid")
        self.assert_raises(InUse, "ball", self.table.without_class, "shape")

    def test_classes_of_methods(self):
        self.assert_raises(InUse, ("ball",), self.table.without_class, "ball")
        table = MethodTable(WIDE, 2, {("o", "o"): SAY, ("n", "a"): SAY, ("b", "n"): SAY, ("a", "b"): SAY, ("b", "o"): SAY})
        self.assert_raises(InUse, ("b", "n"), table.without_class, "n")
        self.assert_raises(InUse, ("b", "o"), table.without_class, "o")
        third = MethodTable(KINDS, 3, {("ball", "thing", "thing"): SAY, ("thing", "thing", "ball"): SAY})
        self.assert_raises(InUse, ("thing", "thing", "ball"), third.without_class, "ball")

    def test_two_errors_at_once(self):
        table = MethodTable(KINDS, 1, {("solid",): SAY})
        self.assert_raises(InUse, "ball", table.without_class, "solid")


if __name__ == "__main__":
    unittest.main()
