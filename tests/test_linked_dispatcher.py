"""LinkedDispatcher: it is a Dispatcher, and knows which module each method comes from."""

import random
import unittest

import support
from fewestmethods import errors
from fewestmethods.conflicts import conflicts
from fewestmethods.dispatcher import Dispatcher
from fewestmethods.errors import InUse
from fewestmethods.errors import InvalidBody
from fewestmethods.errors import NotAConflict
from fewestmethods.errors import NotFound
from fewestmethods.errors import TooMany
from fewestmethods.linking import LinkedDispatcher
from fewestmethods.linking import linked
from fewestmethods.linking import view_of
from fewestmethods.modules import Module

A = (("say", "a"),)
B = (("say", "b"),)
C = (("say", "c"),)
NEXT = (("next",),)
OWN_ERRORS = support.OWN_ERRORS
CLASSES = (("a", ()), ("b", ()), ("c", ("a", "b")), ("d", ("a", "b")), ("m", ("c", "d")), ("n", ("c", "d")))
BASE = Module(
    "base", classes=CLASSES, functions=(("f", 1), ("g", 2)),
    methods=(("f", ("a",), A), ("f", ("b",), B), ("f", ("d",), C), ("g", ("a", "a"), A)),
)
LOW = Module(
    "low", imports=("base",), classes=(("x", ("n",)),), functions=(("h", 1),),
    methods=(("f", ("x",), NEXT), ("g", ("x", "a"), A), ("h", ("a",), B)),
)
OWNERS = {
    ("f", ("a",)): "base", ("f", ("b",)): "base", ("f", ("d",)): "base", ("f", ("x",)): "low", ("g", ("a", "a")): "base",
    ("g", ("x", "a")): "low", ("h", ("a",)): "low",
}


def plain_copy(dispatcher):
    """A Dispatcher with the same hierarchy and tables."""
    copy = Dispatcher(dispatcher.hierarchy())
    for function in dispatcher.functions():
        table = dispatcher.table(function)
        copy.add_function(function, table.count())
        for point in table.points():
            copy.define(function, point, table.body(point))
    return copy


class LinkedCase(support.Case):
    def setUp(self):
        self.dispatcher = linked([LOW, BASE])

    def assert_owners(self, owners, dispatcher=None):
        dispatcher = dispatcher or self.dispatcher
        found = {
            (function, point): dispatcher.owner(function, point)
            for function in dispatcher.functions()
            for point in dispatcher.table(function).points()
        }
        self.assertEqual(found, owners)


class OwnerTest(LinkedCase):
    def test_linked_methods(self):
        self.assert_owners(OWNERS)
        self.assert_same(self.dispatcher.owner(point=("x",), function="f"), "low")
        self.assert_owners({key: "base" for key, owner in OWNERS.items() if owner == "base"}, view_of([LOW, BASE], "base"))

    def test_defined(self):
        self.dispatcher.define("f", ("m",), A)
        self.dispatcher.define("h", ("b",), A)
        self.assert_owners({**OWNERS, ("f", ("m",)): None, ("h", ("b",)): None})

    def test_replaced_also_by_the_same_body(self):
        self.dispatcher.define("f", ("a",), B)
        self.assert_owners({**OWNERS, ("f", ("a",)): None})
        self.dispatcher.define("f", ("a",), A)
        self.dispatcher.define("f", ("b",), B)
        self.dispatcher.define(function="g", point=("x", "a"), body=A)
        self.assert_owners({**OWNERS, ("f", ("a",)): None, ("f", ("b",)): None, ("g", ("x", "a")): None})

    def test_the_same_point_of_another_function(self):
        self.dispatcher.define("h", ("b",), B)
        self.dispatcher.define("h", ("a",), B)
        self.assert_owners({**OWNERS, ("h", ("b",)): None, ("h", ("a",)): None})

    def test_dropped_and_defined_again(self):
        self.dispatcher.drop("g", ("x", "a"))
        self.assert_raises(NotFound, ("x", "a"), self.dispatcher.owner, "g", ("x", "a"))
        self.dispatcher.define("g", ("x", "a"), A)
        self.assert_owners({**OWNERS, ("g", ("x", "a")): None})

    def test_reduced_and_defined_again(self):
        self.assertEqual(self.dispatcher.reduce("g"), [("x", "a")])
        self.assert_owners({key: owner for key, owner in OWNERS.items() if key != ("g", ("x", "a"))})
        self.dispatcher.define("g", ("x", "a"), A)
        self.assert_owners({**OWNERS, ("g", ("x", "a")): None})

    def test_decided_kept_and_written_out(self):
        self.assertEqual(conflicts(self.dispatcher.table("f")), [("c",)])
        keepers, written = self.dispatcher.decide("f", ("c",), ())
        self.assert_same((keepers, written), ([("m",), ("n",)], [("x",)]))
        new = {("f", ("c",)): None, ("f", ("m",)): None, ("f", ("n",)): None}
        self.assert_owners({**OWNERS, **new, ("f", ("x",)): None})
        self.setUp()
        self.dispatcher.define("f", ("n",), NEXT)
        keepers, written = self.dispatcher.decide(body=(), point=("c",), function="f")
        self.assert_same((keepers, written), ([("m",)], [("n",)]))
        self.assert_owners({**OWNERS, **new})

    def test_written_out_by_a_decision(self):
        methods = (*BASE.methods(), ("f", ("n",), NEXT))
        base = Module("base", classes=CLASSES, functions=(("f", 1), ("g", 2)), methods=methods)
        dispatcher = linked([base, LOW])
        self.assertEqual(dispatcher.owner("f", ("n",)), "base")
        self.assert_same(dispatcher.decide("f", ("c",), ()), ([("m",)], [("n",)]))
        self.assertIs(dispatcher.owner("f", ("n",)), None)
        self.assertIs(dispatcher.owner("f", ("m",)), None)
        self.assertIs(dispatcher.owner("f", ("c",)), None)
        self.assertEqual(dispatcher.owner("f", ("x",)), "low")
        self.assertEqual(dispatcher.owner("f", ("d",)), "base")

    def test_classes_change_no_owner(self):
        self.dispatcher.add_class("more", ("a",))
        self.dispatcher.remove_class("more")
        self.dispatcher.add_function("k", 1)
        self.assert_owners(OWNERS)

    def test_an_error_changes_no_owner(self):
        for action, values in (
            (self.dispatcher.define, ("f", ("a",), None)),
            (self.dispatcher.define, ("f", ("x",), NEXT + NEXT)),
            (self.dispatcher.define, ("f", ("a",), NEXT)),
            (self.dispatcher.drop, ("f", ("d",))),
            (self.dispatcher.drop, ("f", ("c",))),
            (self.dispatcher.decide, ("f", ("a",), ())),
            (self.dispatcher.decide, ("f", ("c",), NEXT)),
        ):
            with self.assertRaises((InvalidBody, errors.NoNext, NotFound, NotAConflict)):
                action(*values)
            self.assert_owners(OWNERS)

    def test_errors(self):
        for value in support.NO_CLASSES + ("base", "low"):
            self.assert_raises(NotFound, value, self.dispatcher.owner, value, ("a",))
            if value is not None:
                self.assert_raises(NotFound, value, self.dispatcher.owner, value, None)
        for value in support.NO_POINTS + (("c",), ("m",), ("a", "a"), ["a"], "a"):
            if value != ("x",):
                self.assert_raises(NotFound, value, self.dispatcher.owner, "f", value)


class DispatcherTest(LinkedCase):
    def test_equal_to_a_dispatcher(self):
        plain = plain_copy(self.dispatcher)
        self.assertIs(type(plain), Dispatcher)
        for first, second in ((self.dispatcher, plain), (plain, self.dispatcher)):
            self.assertIs(first == second, True)
            self.assertIs(first != second, False)
        plain.drop("h", ("a",))
        for first, second in ((self.dispatcher, plain), (plain, self.dispatcher)):
            self.assertIs(first == second, False)
            self.assertIs(first != second, True)

    def test_owners_are_not_compared(self):
        other = self.dispatcher.clone()
        other.define("f", ("a",), A)
        self.assertIs(other.owner("f", ("a",)), None)
        self.assertTrue(other == self.dispatcher)

    def test_values_of_other_kinds(self):
        for value in support.NO_CLASSES + (BASE, LinkedDispatcher):
            self.assertIs(self.dispatcher == value, False)
            self.assertIs(self.dispatcher != value, True)

    def test_clone(self):
        self.dispatcher.define("f", ("m",), A)
        self.dispatcher.watch("h", ("a",))
        self.dispatcher.watch("h", ("m",))
        self.dispatcher.define("h", ("m",), ())
        copy = self.dispatcher.clone()
        self.assertIs(type(copy), LinkedDispatcher)
        self.assertEqual(copy, self.dispatcher)
        wanted = {**OWNERS, ("f", ("m",)): None, ("h", ("m",)): None}
        self.assert_owners(wanted, copy)
        copy.define("f", ("a",), A)
        copy.define("h", ("a",), A)
        self.assert_owners(wanted)
        self.assert_owners({**wanted, ("f", ("a",)): None, ("h", ("a",)): None}, copy)
        self.dispatcher.define("f", ("b",), B)
        self.assertEqual(copy.owner("f", ("b",)), "base")
        self.assertEqual(copy.watch("h", ("a",)), 3)
        self.assertEqual(self.dispatcher.watch("h", ("a",)), 3)

    def test_class_values_and_properties(self):
        self.assert_same((LinkedDispatcher.MAX_FUNCTIONS, self.dispatcher.MAX_SITES), (8, 20))
        self.assertIs(self.dispatcher.is_settled, False)
        self.assert_same(len(self.dispatcher), 3)
        self.dispatcher.decide("f", ("c",), A)
        self.assertIs(self.dispatcher.is_settled, True)

    def test_it_does_all_that_a_dispatcher_does(self):
        source = random.Random(811)
        for _ in range(20):
            first, second = linked([BASE, LOW]), plain_copy(linked([BASE, LOW]))
            for _ in range(40):
                method, values = self.random_call(source, first)
                self.assertEqual(self.outcome(first, method, values), self.outcome(second, method, values))
                self.assertTrue(first == second)

    def random_call(self, source, dispatcher):
        names = dispatcher.hierarchy().names()
        function = source.choice(["f", "g", "h", "k"])
        point = tuple(source.choices(names, k=source.choice((1, 1, 2))))
        return source.choice([
            ("define", (function, point, source.choice((A, B, NEXT, None)))),
            ("drop", (function, point)),
            ("add_class", (source.choice("vwz"), tuple(source.sample(names, 2)))),
            ("remove_class", (source.choice(names),)),
            ("decide", (function, point, source.choice((A, B, NEXT)))),
            ("reduce", (function,)),
            ("watch", (function, point)),
            ("call", (function, point)),
            ("site", (source.randint(1, 9),)),
            ("sites", ()),
            ("functions", ()),
            ("hierarchy", ()),
            ("add_function", (function, 1)),
        ])

    def outcome(self, dispatcher, method, values):
        try:
            return getattr(dispatcher, method)(*values)
        except OWN_ERRORS as error:
            return type(error), vars(error)

    def test_errors_of_edits(self):
        self.assert_raises(InUse, "f", self.dispatcher.remove_class, "x")
        self.assert_raises(NotFound, "k", self.dispatcher.define, "k", None, None)
        for name in "stuvw":
            self.dispatcher.add_function(name, 1)
        self.assert_raises(TooMany, 8, self.dispatcher.add_function, "z", 1)


if __name__ == "__main__":
    unittest.main()
