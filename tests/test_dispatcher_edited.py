"""Dispatchers edited, points [22] and [23]: results, errors, and that an error changes nothing."""

import itertools
import unittest

import support
from fewestmethods.conflicts import decide
from fewestmethods.dispatcher import Dispatcher
from fewestmethods.errors import Ambiguous
from fewestmethods.errors import InUse
from fewestmethods.errors import InvalidBody
from fewestmethods.errors import InvalidCount
from fewestmethods.errors import InvalidName
from fewestmethods.errors import InvalidPoint
from fewestmethods.errors import InvalidSuperclasses
from fewestmethods.errors import NameTaken
from fewestmethods.errors import NoMethod
from fewestmethods.errors import NoNext
from fewestmethods.errors import NotAConflict
from fewestmethods.errors import NotFound
from fewestmethods.errors import TooMany
from fewestmethods.errors import Unsettled
from fewestmethods.hierarchy import Hierarchy
from fewestmethods.reduction import reduced
from fewestmethods.tables import MethodTable

KINDS = Hierarchy(support.KINDS)
A = (("say", "a"),)
B = (("say", "b"),)
NEXT = (("next",),)
FLAT = Hierarchy([(letter, ()) for letter in support.TWENTY])
NO_NAMES = support.STRANGE + support.NUMBERS + support.LISTS + support.TUPLES + tuple(support.STRINGS[:-1])
NO_COUNTS = support.STRANGE + (0, 4, -1, 10**59) + support.LISTS + support.TUPLES + support.STRINGS
NO_BODIES = support.STRANGE + support.LISTS + support.NUMBERS + (
    "say a", ("say", "a"), ("next",), [("say", "a")], (["next"],), (("next",), ("next",)), (("call", "f", (1,)),),
    (("call", "f", (True,)),), (("say", "A"),),
)


class EditedCase(support.Case):
    """Functions show (settled, with a next step), mark (with a conflict), and two open sites."""

    def setUp(self):
        self.dispatcher = Dispatcher(KINDS)
        self.dispatcher.add_function("show", 1)
        self.dispatcher.add_function("mark", 2)
        self.dispatcher.define("show", ("thing",), A)
        self.dispatcher.define("show", ("solid",), NEXT + B)
        self.dispatcher.define("mark", ("thing", "ball"), A)
        self.dispatcher.define("mark", ("ball", "thing"), B)
        self.assertEqual(self.dispatcher.watch("show", ("solid",)), 1)
        self.assertEqual(self.dispatcher.watch("show", ("thing",)), 2)

    def assert_refused(self, wanted, value, action, *values):
        """The error, and nothing has changed, the next number included."""
        before = self.dispatcher.clone()
        self.assert_raises(wanted, value, action, *values)
        self.assertEqual(self.dispatcher, before)
        self.assertEqual(self.dispatcher.clone().watch("show", ("thing",)), before.watch("show", ("thing",)))


class AddFunctionTest(EditedCase):
    def test_added(self):
        self.assertIs(self.dispatcher.add_function("hide", 3), None)
        self.assertIs(self.dispatcher.add_function(count=1, name="abcdefgh"), None)
        self.assertEqual(self.dispatcher.functions(), ["show", "mark", "hide", "abcdefgh"])
        self.assertEqual(self.dispatcher.table("hide"), MethodTable(KINDS, 3))
        self.assertEqual(self.dispatcher.sites(), [1, 2])

    def test_values_that_are_no_names(self):
        for value in NO_NAMES:
            self.assert_refused(InvalidName, value, self.dispatcher.add_function, value, 1)
            self.assert_refused(InvalidName, value, self.dispatcher.add_function, value, 0)

    def test_names_that_are_taken(self):
        for count in (1, 2, 0, None):
            self.assert_refused(NameTaken, "mark", self.dispatcher.add_function, "mark", count)

    def test_values_that_are_no_counts(self):
        for value in NO_COUNTS:
            self.assert_refused(InvalidCount, value, self.dispatcher.add_function, "hide", value)

    def test_eight_functions(self):
        for name in "abcdef":
            self.dispatcher.add_function(name, 2)
        self.assertEqual(len(self.dispatcher), 8)
        self.assert_refused(TooMany, 8, self.dispatcher.add_function, "g", 1)
        self.assert_refused(InvalidCount, 4, self.dispatcher.add_function, "g", 4)
        self.assert_refused(NameTaken, "f", self.dispatcher.add_function, "f", 1)
        self.assert_refused(InvalidName, "", self.dispatcher.add_function, "", 1)


class DefineTest(EditedCase):
    def test_added_and_replaced(self):
        self.assert_same(self.dispatcher.define("mark", ("ball", "ball"), A), [])
        self.assert_same(self.dispatcher.define(body=B, point=("ball", "ball"), function="mark"), [])
        wanted = {("thing", "ball"): A, ("ball", "thing"): B, ("ball", "ball"): B}
        self.assertEqual(self.dispatcher.table("mark"), MethodTable(KINDS, 2, wanted))
        self.assertEqual(self.dispatcher.table("show").points(), [("thing",), ("solid",)])

    def test_values_that_are_no_functions(self):
        for value in support.NO_CLASSES + ("thing",):
            self.assert_refused(NotFound, value, self.dispatcher.define, value, ("thing",), A)
            self.assert_refused(NotFound, value, self.dispatcher.define, value, None, None)

    def test_values_that_are_no_points_of_the_table(self):
        for value in support.NO_POINTS + (("ball", "ball"),):
            self.assert_refused(InvalidPoint, value, self.dispatcher.define, "show", value, A)
            self.assert_refused(InvalidPoint, value, self.dispatcher.define, "show", value, None)

    def test_values_that_are_no_bodies(self):
        for value in NO_BODIES:
            self.assert_refused(InvalidBody, value, self.dispatcher.define, "show", ("ball",), value)

    def test_no_next(self):
        self.assert_refused(NoNext, ("thing",), self.dispatcher.define, "show", ("thing",), NEXT)
        self.assert_refused(NoNext, ("ball", "ball"), self.dispatcher.define, "mark", ("ball", "ball"), NEXT)
        self.dispatcher.define("show", ("ball",), NEXT)
        self.assert_refused(NoNext, ("ball",), self.dispatcher.define, "show", ("shape",), B)

    def test_forty_methods(self):
        dispatcher = Dispatcher(FLAT)
        dispatcher.add_function("f", 2)
        points = list(itertools.product(support.TWENTY, repeat=2))
        for point in points[:40]:
            self.assertEqual(dispatcher.define("f", point, A), [])
        self.assert_raises(TooMany, 40, dispatcher.define, "f", points[40], A)
        self.assert_raises(TooMany, 40, dispatcher.define, "f", points[40], NEXT)
        self.assertEqual(dispatcher.table("f").points(), points[:40])
        self.assertEqual(dispatcher.define("f", points[3], B), [])


class DropTest(EditedCase):
    def test_dropped(self):
        self.assert_same(self.dispatcher.drop("mark", ("ball", "thing")), [])
        self.assertEqual(self.dispatcher.table("mark").points(), [("thing", "ball")])
        self.assert_same(self.dispatcher.drop(point=("thing", "ball"), function="mark"), [])
        self.assertEqual(self.dispatcher.table("mark").points(), [])
        self.assertEqual(self.dispatcher.functions(), ["show", "mark"])

    def test_values_that_are_no_functions(self):
        for value in support.NO_CLASSES + ("thing",):
            self.assert_refused(NotFound, value, self.dispatcher.drop, value, ("thing",))
            if value is not None:
                self.assert_refused(NotFound, value, self.dispatcher.drop, value, None)

    def test_values_that_are_no_methods(self):
        for value in support.NO_POINTS + (("ball",), ("shape",), ("thing", "ball")):
            self.assert_refused(NotFound, value, self.dispatcher.drop, "show", value)

    def test_no_next(self):
        self.assert_refused(NoNext, ("solid",), self.dispatcher.drop, "show", ("thing",))


class ClassesTest(EditedCase):
    def assert_one_hierarchy(self):
        for function in self.dispatcher.functions():
            self.assertEqual(self.dispatcher.table(function).hierarchy(), self.dispatcher.hierarchy())

    def test_added(self):
        points = {name: self.dispatcher.table(name).points() for name in self.dispatcher.functions()}
        self.assert_same(self.dispatcher.add_class("cube"), [])
        self.assertEqual(self.dispatcher.hierarchy(), KINDS.with_class("cube"))
        self.assert_one_hierarchy()
        self.assert_same(self.dispatcher.add_class("die", ("shape", "cube")), [])
        self.assert_same(self.dispatcher.add_class(superclasses=("die",), name="dot"), [])
        wanted = KINDS.with_class("cube").with_class("die", ("shape", "cube")).with_class("dot", ("die",))
        self.assertEqual(self.dispatcher.hierarchy(), wanted)
        self.assert_one_hierarchy()
        for name in self.dispatcher.functions():
            self.assertEqual(self.dispatcher.table(name).points(), points[name])
        self.dispatcher.add_function("hide", 1)
        self.assert_one_hierarchy()
        self.assertEqual(KINDS, Hierarchy(support.KINDS))

    def test_add_class_errors(self):
        add = self.dispatcher.add_class
        for value in NO_NAMES:
            self.assert_refused(InvalidName, value, add, value)
            self.assert_refused(InvalidName, value, add, value, None)
        for value in ("ball", "thing"):
            self.assert_refused(NameTaken, value, add, value)
            self.assert_refused(NameTaken, value, add, value, ("x",))
        wrong = support.STRANGE + support.NUMBERS + support.LISTS + support.STRINGS
        for value in wrong + (["ball"], ("ball", "ball"), ("x",), ("cube",), ("ball", None), (["ball"],)):
            self.assert_refused(InvalidSuperclasses, value, add, "cube", value)

    def test_twenty_classes(self):
        dispatcher = Dispatcher(Hierarchy([(letter, ()) for letter in support.TWENTY[:19]]))
        dispatcher.add_function("f", 1)
        self.assertEqual(dispatcher.add_class("t", ("a",)), [])
        self.assert_raises(TooMany, 20, dispatcher.add_class, "u")
        self.assert_raises(InvalidSuperclasses, ("v",), dispatcher.add_class, "u", ("v",))
        self.assertEqual(len(dispatcher.hierarchy()), 20)
        self.assertEqual(len(dispatcher.table("f").hierarchy()), 20)

    def test_removed(self):
        self.dispatcher.add_class("cube", ("solid",))
        self.assert_same(self.dispatcher.remove_class("cube"), [])
        self.assertEqual(self.dispatcher.hierarchy(), KINDS)
        self.assert_one_hierarchy()
        self.dispatcher.add_class("cube", ("solid",))
        self.assert_same(self.dispatcher.remove_class(name="cube"), [])

    def test_remove_class_errors(self):
        for value in support.NO_CLASSES + ("cube", "show"):
            if value != "thing":
                self.assert_refused(NotFound, value, self.dispatcher.remove_class, value)

    def test_in_use_by_the_hierarchy_first(self):
        self.assert_refused(InUse, "shape", self.dispatcher.remove_class, "thing")
        self.assert_refused(InUse, "ball", self.dispatcher.remove_class, "solid")
        self.assert_refused(InUse, "ball", self.dispatcher.remove_class, "shape")

    def test_in_use_by_the_first_function(self):
        self.assert_refused(InUse, "mark", self.dispatcher.remove_class, "ball")
        self.dispatcher.define("show", ("ball",), A)
        self.assert_refused(InUse, "show", self.dispatcher.remove_class, "ball")
        self.dispatcher.drop("show", ("ball",))
        self.dispatcher.drop("mark", ("ball", "thing"))
        self.assert_refused(InUse, "mark", self.dispatcher.remove_class, "ball")
        self.dispatcher.add_function("call", 3)
        self.dispatcher.define("call", ("thing", "thing", "ball"), A)
        self.assert_refused(InUse, "mark", self.dispatcher.remove_class, "ball")
        self.dispatcher.drop("mark", ("thing", "ball"))
        self.assert_refused(InUse, "call", self.dispatcher.remove_class, "ball")
        self.dispatcher.drop("call", ("thing", "thing", "ball"))
        self.assertEqual(self.dispatcher.remove_class("ball"), [])
        self.assertEqual(self.dispatcher.hierarchy().names(), ["thing", "shape", "solid"])
        self.assert_one_hierarchy()


class DecideTest(EditedCase):
    def test_decided(self):
        self.assert_same(self.dispatcher.decide("mark", ("ball", "ball"), ()), ([], []))
        self.assertEqual(self.dispatcher.call("mark", ("ball", "ball")), ())
        self.assertIs(self.dispatcher.is_settled, True)

    def test_keepers_and_written_out(self):
        roots = Hierarchy([("a", ()), ("b", ()), ("c", ("a", "b")), ("d", ("a", "b")), ("m", ("c", "d"))])
        bodies = {("a",): (("say", "one"),), ("b",): (("say", "two"),), ("d",): (("say", "three"),)}
        for more, wanted in (({}, ([("m",)], [])), ({("m",): NEXT}, ([], [("m",)]))):
            dispatcher = Dispatcher(roots)
            dispatcher.add_function("f", 1)
            for point, body in {**bodies, **more}.items():
                dispatcher.define("f", point, body)
            table = dispatcher.table("f")
            self.assert_same(dispatcher.decide(body=(), point=("c",), function="f"), wanted)
            self.assertEqual(dispatcher.table("f"), decide(table, ("c",), ())[0])
            self.assertEqual(dispatcher.call("f", ("m",)), (("say", "three"),))

    def test_errors(self):
        action = self.dispatcher.decide
        for value in support.NO_CLASSES + ("thing",):
            self.assert_refused(NotFound, value, action, value, ("ball", "ball"), ())
            self.assert_refused(NotFound, value, action, value, None, None)
        for value in support.NO_POINTS + (("ball",),):
            self.assert_refused(InvalidPoint, value, action, "mark", value, ())
            self.assert_refused(InvalidPoint, value, action, "mark", value, NEXT)
        for value in (("thing", "thing"), ("ball", "thing"), ("thing", "ball")):
            self.assert_refused(NotAConflict, value, action, "mark", value, ())
            self.assert_refused(NotAConflict, value, action, "mark", value, None)
        for value in support.STRANGE + (NEXT, A + NEXT, [A], "a", 3, (("call", "f", (2,)),)):
            self.assert_refused(InvalidBody, value, action, "mark", ("ball", "ball"), value)

    def test_forty_methods(self):
        rows = [(letter, ()) for letter in "abc"] + [("d", ("a", "b"))] + [(letter, ()) for letter in "efghij"]
        dispatcher = Dispatcher(Hierarchy(rows))
        dispatcher.add_function("f", 2)
        dispatcher.define("f", ("a", "a"), A)
        dispatcher.define("f", ("b", "a"), B)
        for point in list(itertools.product("efghij", repeat=2))[:36] + [("c", "e"), ("c", "f")]:
            dispatcher.define("f", point, A)
        self.assertEqual(len(dispatcher.table("f")), 40)
        self.assert_raises(TooMany, 40, dispatcher.decide, "f", ("d", "a"), A)
        self.assertEqual(len(dispatcher.table("f")), 40)
        dispatcher.drop("f", ("c", "f"))
        self.assertEqual(dispatcher.decide("f", ("d", "a"), A), ([], []))
        self.assertEqual(len(dispatcher.table("f")), 40)


class ReduceTest(EditedCase):
    def test_reduced(self):
        self.dispatcher.define("show", ("ball",), A + B)
        self.dispatcher.define("show", ("shape",), A)
        before = self.dispatcher.table("show")
        self.assert_same(self.dispatcher.reduce("show"), [("shape",), ("ball",)])
        self.assertEqual(self.dispatcher.table("show"), reduced(before))
        self.assertEqual(self.dispatcher.table("show").body(("solid",)), NEXT + B)
        self.assert_same(self.dispatcher.reduce(function="show"), [])

    def test_several_as_listed(self):
        self.dispatcher.add_function("f", 1)
        for name in ("ball", "solid", "shape", "thing"):
            self.dispatcher.define("f", (name,), A)
        self.assert_same(self.dispatcher.reduce("f"), [("shape",), ("solid",), ("ball",)])
        self.assert_same(self.dispatcher.reduce("f"), [])
        self.assertEqual(self.dispatcher.table("f").points(), [("thing",)])

    def test_samples(self):
        for rows, count, methods in support.samples(711, 100):
            dispatcher = Dispatcher(Hierarchy(rows))
            dispatcher.add_function("f", count)
            table = MethodTable(Hierarchy(rows), count, methods)
            for point in table.points():
                dispatcher.define("f", point, table.body(point))
            self.assertEqual(dispatcher.table("f"), table)
            smaller = reduced(table)
            self.assert_same(dispatcher.reduce("f"), [one for one in table.points() if one not in smaller.points()])
            self.assertEqual(dispatcher.table("f"), smaller)

    def test_values_that_are_no_functions(self):
        for value in support.NO_CLASSES + ("thing",):
            self.assert_refused(NotFound, value, self.dispatcher.reduce, value)


class WatchTest(EditedCase):
    def test_opened(self):
        self.assert_same(self.dispatcher.watch("show", ("ball",)), 3)
        self.assert_same(self.dispatcher.watch(point=("ball",), function="show"), 4)
        self.assert_same(self.dispatcher.sites(), [1, 2, 3, 4])
        self.assert_same(self.dispatcher.site(3), ("show", (("solid",), ()), A + B))
        self.assert_same(self.dispatcher.site(2), ("show", (("thing",), (("solid",),)), A))
        self.assertEqual(self.dispatcher.site(4), self.dispatcher.site(1))

    def test_errors(self):
        action = self.dispatcher.watch
        for value in support.NO_CLASSES + ("thing",):
            self.assert_refused(NotFound, value, action, value, ("ball",))
            self.assert_refused(NotFound, value, action, value, None)
        for value in support.NO_POINTS + (("ball", "ball"),):
            self.assert_refused(InvalidPoint, value, action, "show", value)
        self.assert_refused(NoMethod, ("thing", "thing"), action, "mark", ("thing", "thing"))
        before = self.dispatcher.clone()
        wanted = {"point": ("ball", "ball"), "rivals": [("thing", "ball"), ("ball", "thing")]}
        self.assert_error(Ambiguous, wanted, action, "mark", ("ball", "ball"))
        self.assertEqual(self.dispatcher, before)

    def test_unsettled(self):
        self.assert_refused(Unsettled, ("ball", "ball"), self.dispatcher.watch, "mark", ("thing", "ball"))
        self.assert_refused(Unsettled, ("ball", "ball"), self.dispatcher.watch, "mark", ("ball", "solid"))

    def test_twenty_sites(self):
        for number in range(3, 21):
            self.assertEqual(self.dispatcher.watch("show", ("ball",)), number)
        self.assertEqual(self.dispatcher.sites(), list(range(1, 21)))
        before = self.dispatcher.clone()
        self.assert_raises(TooMany, 20, self.dispatcher.watch, "show", ("ball",))
        self.assert_raises(Unsettled, ("ball", "ball"), self.dispatcher.watch, "mark", ("thing", "ball"))
        self.assert_raises(NoMethod, ("thing", "thing"), self.dispatcher.watch, "mark", ("thing", "thing"))
        self.assert_raises(InvalidPoint, None, self.dispatcher.watch, "show", None)
        self.assert_raises(NotFound, "hide", self.dispatcher.watch, "hide", None)
        self.assertEqual(self.dispatcher, before)
        self.assertEqual(self.dispatcher.define("show", ("thing",), B), list(range(1, 21)))
        self.assertEqual(self.dispatcher.watch("show", ("ball",)), 21)
        self.assertEqual(self.dispatcher.sites(), [21])


if __name__ == "__main__":
    unittest.main()
