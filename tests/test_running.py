"""Runs, point [27], and SAME RUNS of point [4]."""

import random
import unittest

import support
from fewestmethods import running
from fewestmethods.conflicts import is_settled
from fewestmethods.dispatcher import Dispatcher
from fewestmethods.errors import Ambiguous
from fewestmethods.errors import InvalidLimit
from fewestmethods.errors import InvalidPoint
from fewestmethods.errors import NoMethod
from fewestmethods.errors import NotFound
from fewestmethods.errors import TooManySteps
from fewestmethods.hierarchy import Hierarchy
from fewestmethods.linking import LinkedDispatcher
from fewestmethods.linking import linked
from fewestmethods.modules import Module
from fewestmethods.running import run

KINDS = Hierarchy(support.KINDS)
NO_LIMITS = support.STRANGE + support.LISTS + support.TUPLES + support.STRINGS + (-1, 201, 10**59, -(10**59), "0", "200")


def made(functions, methods, hierarchy=KINDS):
    """A dispatcher with functions (name, count) and methods (function, point, body)."""
    dispatcher = Dispatcher(hierarchy)
    for name, count in functions:
        dispatcher.add_function(name, count)
    for function, point, body in methods:
        dispatcher.define(function, point, body)
    return dispatcher


def say(word):
    return "say", word


def call(function, *items):
    return "call", function, items


class ByDefinition:
    """Point [27] in the words of the document: a call step runs its function, then the run goes on behind it."""

    def __init__(self, dispatcher, limit):
        self.dispatcher = dispatcher
        self.limit = limit
        self.begun = 0
        self.words = []

    def run(self, function, point):
        for step in self.dispatcher.call(function, point):
            if self.begun == self.limit:
                raise TooManySteps(self.limit)
            self.begun += 1
            if step[0] == "say":
                self.words.append(step[1])
            else:
                self.run(step[1], tuple(point[item] if isinstance(item, int) else item for item in step[2]))
        return self.words


class RunCase(support.Case):
    def assert_needs(self, steps, wanted, dispatcher, function, point):
        """The run has these words, and begins just so many steps."""
        self.assert_same(run(dispatcher, function, point), wanted)
        self.assert_same(run(dispatcher, function, point, limit=steps), wanted)
        if steps > 0:
            self.assert_error(TooManySteps, {"limit": steps - 1}, run, dispatcher, function, point, limit=steps - 1)

    def assert_fails_in_step(self, steps, wanted, attributes, dispatcher, function, point):
        """The run raises an error in just this step, which counts."""
        for limit in (steps, steps + 1, 200):
            self.assert_error(wanted, attributes, run, dispatcher, function, point, limit=limit)
        for limit in (0, steps - 1):
            self.assert_error(TooManySteps, {"limit": limit}, run, dispatcher, function, point, limit=limit)


class WordsTest(RunCase):
    def test_words_in_order(self):
        body = (say("b"), say("a"), say("b"), say("abcdefgh"))
        dispatcher = made([("f", 1)], [("f", ("thing",), body)])
        self.assert_needs(4, ["b", "a", "b", "abcdefgh"], dispatcher, "f", ("ball",))

    def test_an_empty_body(self):
        dispatcher = made([("f", 1)], [("f", ("thing",), ())])
        self.assert_needs(0, [], dispatcher, "f", ("ball",))

    def test_next_steps_are_no_steps_of_a_run(self):
        methods = [("f", ("thing",), (say("a"), say("b"))), ("f", ("solid",), (say("c"), ("next",), say("d")))]
        dispatcher = made([("f", 1)], methods)
        self.assert_needs(4, ["c", "a", "b", "d"], dispatcher, "f", ("ball",))
        self.assert_needs(2, ["a", "b"], dispatcher, "f", ("shape",))

    def test_indexes_mean_the_classes_of_the_running_call(self):
        methods = [
            ("f", ("thing", "thing"), (call("g", 1, 0), call("g", 0, 0))),
            ("g", ("thing", "thing"), (call("h", 1),)),
            ("h", ("thing",), (say("thing"),)),
            ("h", ("shape",), (say("shape"),)),
            ("h", ("solid",), (say("solid"),)),
            ("h", ("ball",), (say("ball"),)),
        ]
        dispatcher = made([("f", 2), ("g", 2), ("h", 1)], methods)
        self.assert_needs(6, ["solid", "solid"], dispatcher, "f", ("solid", "ball"))
        self.assert_needs(6, ["shape", "shape"], dispatcher, "f", ("shape", "thing"))

    def test_names_mean_classes(self):
        methods = [
            ("f", ("thing", "thing", "thing"), (call("f", "ball", 2, "shape"), say("a"))),
            ("f", ("ball", "solid", "thing"), (call("g", 2, 0, "thing"), say("b"))),
            ("g", ("shape", "ball", "thing"), (say("c"),)),
        ]
        dispatcher = made([("f", 3), ("g", 3)], methods)
        self.assert_needs(5, ["c", "b", "a"], dispatcher, "f", ("thing", "thing", "solid"))
        self.assert_needs(3, ["c", "b"], dispatcher, "f", ("ball", "solid", "shape"))

    def test_the_steps_behind_a_call(self):
        methods = [
            ("f", ("thing",), (say("a"), call("g", 0), say("b"), call("g", "ball"), call("f", "solid"), say("e"))),
            ("f", ("solid",), (say("d"),)),
            ("g", ("thing",), (say("c"), call("f", "solid"))),
        ]
        dispatcher = made([("f", 1), ("g", 1)], methods)
        words = ["a", "c", "d", "b", "c", "d", "d", "e"]
        self.assert_needs(13, words, dispatcher, "f", ("shape",))

    def test_several_levels_deep(self):
        letters = support.TWENTY
        rows = [(letter, ()) for letter in letters]
        methods = [("f", (one,), (say(one), call("f", two), say(one))) for one, two in zip(letters, letters[1:])]
        methods.append(("f", (letters[-1],), (say("last"),)))
        dispatcher = made([("f", 1)], methods, Hierarchy(rows))
        words = [*letters[:-1], "last", *letters[-2::-1]]
        self.assert_needs(3 * 19 + 1, words, dispatcher, "f", ("a",))

    def test_a_call_of_an_empty_body_is_a_step(self):
        methods = [("f", ("thing",), (call("g", 0), call("g", 0))), ("g", ("thing",), ())]
        self.assert_needs(2, [], made([("f", 1), ("g", 1)], methods), "f", ("ball",))

    def test_several_rivals_of_one_expansion(self):
        methods = [("f", ("shape",), (say("a"),)), ("f", ("solid",), (say("a"),))]
        self.assert_needs(1, ["a"], made([("f", 1)], methods), "f", ("ball",))

    def test_results_are_new(self):
        dispatcher = made([("f", 1)], [("f", ("thing",), (say("a"),))])
        run(dispatcher, "f", ("thing",)).append("b")
        self.assertEqual(run(dispatcher, "f", ("thing",)), ["a"])


class LimitTest(RunCase):
    def setUp(self):
        self.dispatcher = made([("f", 1)], [("f", ("thing",), (say("a"),)), ("f", ("ball",), ())])

    def test_the_class_value(self):
        self.assert_same(running.MAX_RUN_STEPS, 200)

    def test_zero(self):
        self.assert_same(run(self.dispatcher, "f", ("ball",), limit=0), [])
        self.assert_error(TooManySteps, {"limit": 0}, run, self.dispatcher, "f", ("thing",), limit=0)

    def test_two_hundred_steps(self):
        self.dispatcher.define("f", ("solid",), (say("a"),) * 200)
        self.assert_needs(200, ["a"] * 200, self.dispatcher, "f", ("solid",))
        self.dispatcher.define("f", ("shape",), (say("a"),) * 100 + (call("f", "cube"),))
        self.dispatcher.add_class("cube", ("shape",))
        self.dispatcher.define("f", ("cube",), (say("b"),) * 99)
        self.assert_needs(200, ["a"] * 100 + ["b"] * 99, self.dispatcher, "f", ("shape",))
        self.dispatcher.define("f", ("cube",), (say("b"),) * 100)
        self.assert_error(TooManySteps, {"limit": 200}, run, self.dispatcher, "f", ("shape",))
        self.assert_error(TooManySteps, {"limit": 200}, run, self.dispatcher, "f", ("shape",), limit=200)
        self.assert_error(TooManySteps, {"limit": 199}, run, self.dispatcher, "f", ("shape",), limit=199)

    def test_without_end(self):
        for body in ((call("f", 0),), (say("a"), call("f", 0)), (call("f", 0), say("a")), (call("f", "solid"),)):
            self.dispatcher.define("f", ("solid",), body)
            for limit in (0, 1, 2, 7, 200):
                self.assert_error(TooManySteps, {"limit": limit}, run, self.dispatcher, "f", ("solid",), limit=limit)
            self.assert_error(TooManySteps, {"limit": 200}, run, self.dispatcher, "f", ("solid",))

    def test_without_end_over_two_functions(self):
        self.dispatcher.add_function("g", 2)
        self.dispatcher.define("g", ("thing", "thing"), (call("f", 1), say("b")))
        self.dispatcher.define("f", ("shape",), (call("g", "thing", 0),))
        self.assert_error(TooManySteps, {"limit": 200}, run, self.dispatcher, "f", ("shape",))
        self.assert_needs(3, ["a", "b"], self.dispatcher, "g", ("shape", "solid"))

    def test_values_that_are_no_limits(self):
        for value in NO_LIMITS:
            with self.subTest(value=value):
                self.assert_error(InvalidLimit, {"value": value}, run, self.dispatcher, "f", ("thing",), limit=value)
                self.assert_error(InvalidLimit, {"value": value}, run, self.dispatcher, "g", None, limit=value)
                self.assert_error(InvalidLimit, {"value": value}, run, self.dispatcher, [], ("ball",), limit=value)

    def test_the_limit_is_passed_by_name(self):
        with self.assertRaises(TypeError):
            run(self.dispatcher, "f", ("thing",), 200)
        named = {"limit": 1, "point": ("thing",), "function": "f", "dispatcher": self.dispatcher}
        self.assert_same(run(**named), ["a"])


class ErrorsTest(RunCase):
    def setUp(self):
        self.dispatcher = made([("f", 1), ("g", 2)], [("f", ("shape",), (say("a"),)), ("g", ("ball", "thing"), ())])

    def test_of_the_call_itself(self):
        for limit in (0, 1, 200):
            for value in support.NO_CLASSES + ("thing",):
                for point in (("ball",), None):
                    wanted = {"value": value}
                    self.assert_error(NotFound, wanted, run, self.dispatcher, value, point, limit=limit)
            for value in support.NO_POINTS + (("ball", "ball"),):
                self.assert_error(InvalidPoint, {"value": value}, run, self.dispatcher, "f", value, limit=limit)
            wanted = {"point": ("thing",)}
            self.assert_error(NoMethod, wanted, run, self.dispatcher, "f", ("thing",), limit=limit)

    def test_ambiguous(self):
        self.dispatcher.define("f", ("solid",), (say("b"),))
        wanted = {"point": ("ball",), "rivals": [("shape",), ("solid",)]}
        for limit in (0, 200):
            self.assert_error(Ambiguous, wanted, run, self.dispatcher, "f", ("ball",), limit=limit)

    def test_inside_a_body(self):
        self.dispatcher.define("f", ("solid",), (say("a"), say("b")))
        cases = [
            (call("none", 0), NotFound, {"value": "none"}),
            (call("thing", 0), NotFound, {"value": "thing"}),
            (call("f", "none"), InvalidPoint, {"value": ("none",)}),
            (call("g", 0, "none"), InvalidPoint, {"value": ("thing", "none")}),
            (call("f", 0, 0), InvalidPoint, {"value": ("thing", "thing")}),
            (call("g", 0), InvalidPoint, {"value": ("thing",)}),
            (call("g", "ball", 0, "ball"), InvalidPoint, {"value": ("ball", "thing", "ball")}),
            (call("none", "none"), NotFound, {"value": "none"}),
            (call("g", 0, "ball"), NoMethod, {"point": ("thing", "ball")}),
            (call("f", "ball"), Ambiguous, {"point": ("ball",), "rivals": [("shape",), ("solid",)]}),
        ]
        self.dispatcher.define("f", ("thing",), ())
        for step, wanted, attributes in cases:
            for before in range(3):
                body = (say("w"),) * before + (step, say("z"))
                self.dispatcher.define("f", ("thing",), body)
                with self.subTest(body=body):
                    self.assert_fails_in_step(before + 1, wanted, attributes, self.dispatcher, "f", ("thing",))

    def test_several_levels_deep(self):
        self.dispatcher.define("f", ("thing",), (say("a"), call("g", "ball", 0), say("b")))
        self.dispatcher.define("g", ("ball", "thing"), (say("c"), call("f", 0), call("none", 0)))
        self.assert_fails_in_step(5 + 1, NotFound, {"value": "none"}, self.dispatcher, "f", ("thing",))

    def test_a_class_that_was_removed(self):
        self.dispatcher.add_class("cube", ("shape",))
        self.dispatcher.define("f", ("thing",), (call("f", "cube"),))
        self.assert_needs(2, ["a"], self.dispatcher, "f", ("thing",))
        self.dispatcher.remove_class("cube")
        self.assert_fails_in_step(1, InvalidPoint, {"value": ("cube",)}, self.dispatcher, "f", ("thing",))


class SamplesTest(RunCase):
    def runs(self, dispatcher, limits=(0, 1, 2, 5, 40)):
        """What every run gives, at every point."""
        found = []
        for function in dispatcher.functions():
            table = dispatcher.table(function)
            for point in support.every_point(table):
                for limit in limits:
                    found.append(support.outcome_of(run, dispatcher, function, point, limit=limit))
        return found

    def test_by_definition(self):
        source = random.Random(901)
        seen = {}
        for _ in range(150):
            dispatcher = support.sample_calling(source)
            for function in dispatcher.functions():
                for point in support.every_point(dispatcher.table(function)):
                    for limit in (0, 1, 3, 60, 200):
                        wanted = support.outcome_of(ByDefinition(dispatcher, limit).run, function, point)
                        found = support.outcome_of(run, dispatcher, function, point, limit=limit)
                        self.assertEqual(found, wanted)
                        seen[wanted[0]] = seen.get(wanted[0], 0) + 1
        errors = {"result", "NotFound", "InvalidPoint", "NoMethod", "Ambiguous", "TooManySteps"}
        self.assertEqual(set(seen), errors)
        self.assertGreater(min(seen.values()), 50)

    def test_the_dispatcher_does_not_change(self):
        source = random.Random(902)
        for _ in range(40):
            dispatcher = support.sample_calling(source)
            for point in dispatcher.hierarchy().names():
                support.outcome_of(dispatcher.watch, "f", (point,))
            before = dispatcher.clone()
            first = self.runs(dispatcher)
            self.assertEqual(dispatcher, before)
            self.assertEqual(self.runs(dispatcher), first)
            self.assertEqual(self.runs(before), first)
            self.assertEqual(
                support.outcome_of(dispatcher.watch, "f", ("a",)), support.outcome_of(before.watch, "f", ("a",))
            )

    def test_a_settled_table_that_is_reduced_has_the_same_runs(self):
        source = random.Random(903)
        removed = 0
        for _ in range(200):
            dispatcher = support.sample_calling(source)
            self.repeat_calls(source, dispatcher)
            for function in dispatcher.functions():
                before = self.runs(dispatcher)
                if is_settled(dispatcher.table(function)):
                    removed += len(dispatcher.reduce(function)) > 0
                    self.assertEqual(self.runs(dispatcher), before)
        self.assertGreater(removed, 100)

    def repeat_calls(self, source, dispatcher):
        """Adds methods that say what is called at their points anyway."""
        for function in dispatcher.functions():
            for point in source.choices(support.every_point(dispatcher.table(function)), k=3):
                word, steps = support.outcome_of(dispatcher.call, function, point)
                if word == "result":
                    support.outcome_of(dispatcher.define, function, point, steps)

    def test_a_linked_dispatcher(self):
        source = random.Random(904)
        for _ in range(60):
            plain = support.sample_calling(source)
            hierarchy = plain.hierarchy()
            tables = {name: plain.table(name) for name in plain.functions()}
            module = Module(
                "all",
                classes=tuple((name, hierarchy.superclasses(name)) for name in hierarchy.names()),
                functions=tuple((name, table.count()) for name, table in tables.items()),
                methods=tuple((name, one, table.body(one)) for name, table in tables.items() for one in table.points()),
            )
            dispatcher = linked([module])
            self.assertEqual(dispatcher, plain)
            self.assertEqual(self.runs(dispatcher), self.runs(plain))
            self.assertIs(type(dispatcher.clone()), LinkedDispatcher)
            self.assertEqual(self.runs(dispatcher.clone()), self.runs(plain))


if __name__ == "__main__":
    unittest.main()
