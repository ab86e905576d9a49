"""Dispatchers made and asked, point [22]."""

import unittest

import support
from fewestmethods.calls import call
from fewestmethods.dispatcher import Dispatcher
from fewestmethods.errors import Ambiguous
from fewestmethods.errors import InvalidPoint
from fewestmethods.errors import NoMethod
from fewestmethods.errors import NotFound
from fewestmethods.hierarchy import Hierarchy
from fewestmethods.tables import MethodTable

KINDS = Hierarchy(support.KINDS)
A = (("say", "a"),)
B = (("say", "b"),)
METHODS = {("thing",): A, ("solid",): B}


def made():
    dispatcher = Dispatcher(KINDS)
    dispatcher.add_function("show", 1)
    dispatcher.add_function("mark", 2)
    dispatcher.define("show", ("thing",), A)
    dispatcher.define("show", ("solid",), B)
    dispatcher.define("mark", ("ball", "thing"), A)
    return dispatcher


class MadeTest(support.Case):
    def test_a_new_one(self):
        for dispatcher in (Dispatcher(KINDS), Dispatcher(hierarchy=KINDS)):
            self.assertEqual(dispatcher.hierarchy(), KINDS)
            self.assertEqual(dispatcher.functions(), [])
            self.assertEqual(dispatcher.sites(), [])
            self.assertEqual(len(dispatcher), 0)
            self.assertIs(dispatcher.is_settled, True)

    def test_without_classes(self):
        dispatcher = Dispatcher(Hierarchy())
        self.assertIs(dispatcher.add_function("show", 3), None)
        self.assertEqual(dispatcher.table("show"), MethodTable(Hierarchy(), 3))
        self.assertIs(dispatcher.is_settled, True)
        self.assert_raises(InvalidPoint, ("a", "a", "a"), dispatcher.call, "show", ("a", "a", "a"))

    def test_class_values(self):
        for holder in (Dispatcher, Dispatcher(KINDS)):
            self.assert_same((holder.MAX_FUNCTIONS, holder.MAX_SITES), (8, 20))


class AskedTest(support.Case):
    def test_functions_and_tables(self):
        dispatcher = made()
        self.assert_same(dispatcher.functions(), ["show", "mark"])
        self.assert_same(len(dispatcher), 2)
        self.assertEqual(dispatcher.table("show"), MethodTable(KINDS, 1, METHODS))
        self.assertEqual(dispatcher.table("mark"), MethodTable(KINDS, 2, {("ball", "thing"): A}))
        self.assertEqual(dispatcher.table(function="mark"), dispatcher.table("mark"))

    def test_functions_stand_in_the_order_in_which_they_were_added(self):
        dispatcher = Dispatcher(KINDS)
        for name in ("z", "a", "m", "ball"):
            dispatcher.add_function(name, 1)
        self.assertEqual(dispatcher.functions(), ["z", "a", "m", "ball"])

    def test_functions_and_classes_do_not_exclude_each_other(self):
        dispatcher = made()
        dispatcher.add_function("ball", 1)
        dispatcher.add_class("show", ("ball",))
        dispatcher.define("ball", ("show",), A)
        self.assertEqual(dispatcher.call("ball", ("show",)), A)

    def test_call(self):
        dispatcher = made()
        for point in KINDS.names():
            self.assertEqual(dispatcher.call("show", (point,)), call(dispatcher.table("show"), (point,)))
        self.assertEqual(dispatcher.call(point=("ball", "ball"), function="mark"), A)

    def test_call_errors(self):
        dispatcher = made()
        for value in support.NO_POINTS + (("ball", "ball"),):
            self.assert_raises(InvalidPoint, value, dispatcher.call, "show", value)
        self.assert_raises(InvalidPoint, ("ball",), dispatcher.call, "mark", ("ball",))
        self.assert_raises(NoMethod, ("thing", "thing"), dispatcher.call, "mark", ("thing", "thing"))
        dispatcher.define("show", ("shape",), A)
        wanted = {"point": ("ball",), "rivals": [("shape",), ("solid",)]}
        self.assert_error(Ambiguous, wanted, dispatcher.call, "show", ("ball",))

    def test_values_that_are_no_functions(self):
        dispatcher = made()
        for value in support.NO_CLASSES + ("thing", "ball", "hide"):
            self.assert_raises(NotFound, value, dispatcher.table, value)
            self.assert_raises(NotFound, value, dispatcher.call, value, ("thing",))
            self.assert_raises(NotFound, value, dispatcher.call, value, None)

    def test_values_that_are_no_sites(self):
        dispatcher = made()
        self.assertEqual(dispatcher.watch("show", ("solid",)), 1)
        for value in support.NO_CLASSES + (2, -1, 0, "1", (1,), [1]):
            if value != 1 or isinstance(value, bool):
                self.assert_raises(NotFound, value, dispatcher.site, value)
        self.assertEqual(dispatcher.site(number=1), dispatcher.site(1))

    def test_is_settled(self):
        dispatcher = made()
        self.assertIs(dispatcher.is_settled, True)
        dispatcher.define("mark", ("thing", "ball"), B)
        self.assertIs(dispatcher.is_settled, False)
        dispatcher.decide("mark", ("ball", "ball"), ())
        self.assertIs(dispatcher.is_settled, True)
        dispatcher.define("show", ("shape",), A)
        self.assertIs(dispatcher.is_settled, False)
        dispatcher.reduce("show")
        self.assertIs(dispatcher.is_settled, True)
        dispatcher.define("show", ("shape",), A)
        dispatcher.define("show", ("ball",), A)
        self.assertIs(dispatcher.is_settled, True)
        dispatcher.add_class("cube", ("shape", "solid"))
        self.assertIs(dispatcher.is_settled, False)
        dispatcher.remove_class("cube")
        self.assertIs(dispatcher.is_settled, True)

    def test_is_settled_cannot_be_set(self):
        with self.assertRaises(AttributeError):
            made().is_settled = True

    def test_returned_values_cannot_change_the_dispatcher(self):
        dispatcher = made()
        dispatcher.watch("show", ("solid",))
        before = dispatcher.clone()
        dispatcher.functions().append("more")
        dispatcher.functions().clear()
        dispatcher.sites().append(7)
        dispatcher.sites().clear()
        dispatcher.hierarchy().names().clear()
        dispatcher.table("show").points().clear()
        dispatcher.define("show", ("solid",), B).append(1)
        self.assertEqual(dispatcher, before)
        self.assertEqual(dispatcher.sites(), [1])
        self.assert_same(dispatcher.site(1), ("show", (("solid",), ()), B))


class EqualTest(support.Case):
    def test_equal(self):
        self.assertTrue(made() == made())
        self.assertFalse(made() != made())
        first, second = made(), made()
        for dispatcher in (first, second):
            dispatcher.watch("show", ("ball",))
        self.assertTrue(first == second)

    def test_the_order_of_methods_does_not_count(self):
        first, second = Dispatcher(KINDS), Dispatcher(KINDS)
        for dispatcher, points in ((first, ("thing", "solid")), (second, ("solid", "thing"))):
            dispatcher.add_function("show", 1)
            for name in points:
                dispatcher.define("show", (name,), METHODS[(name,)])
        self.assertTrue(first == second)

    def test_not_equal(self):
        edits = [
            lambda dispatcher: dispatcher.add_function("hide", 1),
            lambda dispatcher: dispatcher.define("show", ("ball",), A),
            lambda dispatcher: dispatcher.define("show", ("solid",), A),
            lambda dispatcher: dispatcher.drop("show", ("solid",)),
            lambda dispatcher: dispatcher.add_class("cube"),
            lambda dispatcher: dispatcher.watch("show", ("ball",)),
            lambda dispatcher: dispatcher.watch("show", ("thing",)),
            lambda dispatcher: dispatcher.watch("mark", ("ball", "ball")),
        ]
        made_ones = [made()]
        for edit in edits:
            dispatcher = made()
            edit(dispatcher)
            made_ones.append(dispatcher)
        for at, first in enumerate(made_ones):
            for other_at, second in enumerate(made_ones):
                with self.subTest(first=at, second=other_at):
                    self.assertIs(first == second, at == other_at)
                    self.assertIs(first != second, at != other_at)

    def test_the_order_of_functions_counts(self):
        first, second = Dispatcher(KINDS), Dispatcher(KINDS)
        first.add_function("show", 1)
        first.add_function("mark", 1)
        second.add_function("mark", 1)
        second.add_function("show", 1)
        self.assertTrue(first != second)

    def test_parameter_counts_and_hierarchies_count(self):
        first, second = Dispatcher(KINDS), Dispatcher(KINDS)
        first.add_function("show", 1)
        second.add_function("show", 2)
        self.assertTrue(first != second)
        self.assertTrue(Dispatcher(KINDS) != Dispatcher(Hierarchy()))
        other_order = Hierarchy([support.KINDS[at] for at in (0, 2, 1, 3)])
        self.assertTrue(Dispatcher(KINDS) != Dispatcher(other_order))

    def test_the_numbers_of_sites_count_but_not_the_next_one(self):
        first, second = made(), made()
        for dispatcher in (first, second):
            self.assertEqual(dispatcher.watch("show", ("thing",)), 1)
            self.assertEqual(dispatcher.define("show", ("thing",), B), [1])
            self.assertEqual(dispatcher.define("show", ("thing",), A), [])
        third = made()
        self.assertTrue(first == second)
        self.assertTrue(first == third)
        self.assertEqual(first.watch("show", ("thing",)), 2)
        self.assertEqual(third.watch("show", ("thing",)), 1)
        self.assertTrue(first != third)

    def test_values_of_other_kinds(self):
        dispatcher = Dispatcher(Hierarchy())
        for value in support.NO_CLASSES + (KINDS, MethodTable(KINDS, 1), Dispatcher):
            self.assertIs(dispatcher == value, False)
            self.assertIs(value == dispatcher, False)
            self.assertIs(dispatcher != value, True)


class CloneTest(support.Case):
    def test_equal_and_independent(self):
        dispatcher = made()
        dispatcher.watch("show", ("ball",))
        before = dispatcher.clone()
        self.assertIs(type(before), Dispatcher)
        self.assertEqual(before, dispatcher)
        edits = [
            lambda one: one.add_function("hide", 1),
            lambda one: one.define("show", ("solid",), ()),
            lambda one: one.drop("mark", ("ball", "thing")),
            lambda one: one.add_class("cube", ("solid",)),
            lambda one: one.remove_class("cube"),
            lambda one: one.watch("show", ("thing",)),
            lambda one: one.define("show", ("shape",), A),
            lambda one: one.decide("show", ("ball",), B),
            lambda one: one.reduce("show"),
        ]
        for edit in edits:
            copy = dispatcher.clone()
            same = dispatcher.clone()
            edit(copy)
            self.assertNotEqual(copy, dispatcher)
            self.assertEqual(same, dispatcher)
            edit(dispatcher)
            self.assertEqual(copy, dispatcher)
            self.assertNotEqual(same, dispatcher)
        self.assertEqual(before.functions(), ["show", "mark"])
        self.assertEqual(before.sites(), [1])

    def test_the_same_next_number(self):
        dispatcher = made()
        dispatcher.watch("show", ("thing",))
        dispatcher.watch("show", ("thing",))
        self.assertEqual(dispatcher.define("show", ("thing",), B), [1, 2])
        copy = dispatcher.clone()
        self.assertEqual(copy.watch("show", ("thing",)), 3)
        self.assertEqual(dispatcher.watch("show", ("thing",)), 3)
        self.assertEqual(copy.watch("show", ("thing",)), 4)
        self.assertEqual(dispatcher.sites(), [3])
        self.assertEqual(dispatcher.clone().clone().sites(), [3])


if __name__ == "__main__":
    unittest.main()
