"""The whole interface: arguments by position and by name, defaults, class values, and results that are new; [2]."""

import copy
import importlib
import inspect
import pathlib
import re
import unittest

import support
from fewestmethods.calls import answers
from fewestmethods.console import Console
from fewestmethods.dispatcher import Dispatcher
from fewestmethods.hierarchy import Hierarchy
from fewestmethods.linking import linked
from fewestmethods.modules import Module
from fewestmethods.sessions import Session
from fewestmethods.tables import MethodTable
from session_support import OPERATIONS
from session_support import session_after

SHARED_DOCUMENT = pathlib.Path(__file__).resolve().parent.parent.parent / "shared" / "DOC.md"

A = (("say", "a"),)
B = (("say", "b"),)
KINDS = Hierarchy(support.KINDS)
TABLE = MethodTable(KINDS, 1, {("thing",): A, ("shape",): A, ("solid",): (("next",), ("say", "b"))})
SETTLED = TABLE.without_method(("shape",))
THREE = KINDS.without_class("ball")
BASE = Module("base", classes=(("thing", ()),), functions=(("show", 1),), methods=(("show", ("thing",), A),))
LEFT = Module("left", imports=("base",), classes=(("shape", ("thing",)),), methods=(("show", ("shape",), A),))
RIGHT = Module("right", imports=("base",), classes=(("solid", ("thing",)),), methods=(("show", ("solid",), B),))
BOTH = Module("both", imports=("left", "right"), classes=(("ball", ("shape", "solid")),))
MODULES = [BOTH, LEFT, BASE, RIGHT]
LATER = MethodTable(THREE, 1, {("thing",): A, ("shape",): A, ("solid",): B})


def made_dispatcher():
    return session_after([*OPERATIONS, ("class", "die", ("ball",))]).dispatcher()


def made_session():
    session = session_after(OPERATIONS)
    session.undo()
    return session


def made_console():
    console = Console()
    for line in str(session_after(OPERATIONS)).split("\n")[:-1]:
        console.execute(line)
    console.execute("undo")
    return console


MAKERS = {
    "Hierarchy": lambda: KINDS,
    "MethodTable": lambda: TABLE,
    "Dispatcher": made_dispatcher,
    "Module": lambda: LEFT,
    "LinkedDispatcher": lambda: linked(MODULES),
    "Session": made_session,
    "Console": made_console,
}

# For each file what the document lists, word for word, each with arguments: by position, then those behind a star.
INTERFACE = {
    "names": [("is_name(value)", ("ball",), {})],
    "hierarchy": [
        ("Hierarchy(classes=())", (support.KINDS,), {}),
        ("Hierarchy.read(text)", (str(KINDS),), {}),
        ("Hierarchy.of(**superclasses)", (), {"b": (), "a": ("b",)}),
        ("Hierarchy.names()", (), {}),
        ("Hierarchy.has_class(value)", ("ball",), {}),
        ("Hierarchy.superclasses(name)", ("ball",), {}),
        ("Hierarchy.position_of(name)", ("solid",), {}),
        ("Hierarchy.is_at_or_below(name, other)", ("ball", "thing"), {}),
        ("Hierarchy.ancestors(name)", ("ball",), {}),
        ("Hierarchy.descendants(name)", ("thing",), {}),
        ("Hierarchy.highest_common(first, *others)", ("solid",), {}),
        ("Hierarchy.with_class(name, superclasses=())", ("cube", ("solid",)), {}),
        ("Hierarchy.without_class(name)", ("ball",), {}),
    ],
    "points": [
        ("is_point(hierarchy, value)", (KINDS, ("ball", "thing")), {}),
        ("is_point_at_or_below(hierarchy, first, second)", (KINDS, ("ball",), ("thing",)), {}),
        ("listed(hierarchy, points)", (KINDS, [("ball",), ("thing",), ("ball",)]), {}),
        ("highest(hierarchy, points)", (KINDS, [("ball",), ("thing",), ("ball",)]), {}),
        ("lowest(hierarchy, points)", (KINDS, [("ball",), ("thing",), ("ball",)]), {}),
        ("all_points(hierarchy, count)", (KINDS, 2), {}),
        ("points_at_or_below(hierarchy, point)", (KINDS, ("shape", "ball")), {}),
        ("highest_common_points(hierarchy, first, *others)", (KINDS, ("solid", "ball")), {}),
    ],
    "bodies": [("is_body(value, count)", ((("call", "f", (1,)),), 2), {})],
    "tables": [
        ("MethodTable(hierarchy, count, methods=None)", (KINDS, 1, {("thing",): A}), {}),
        ("MethodTable.is_count(value)", (3,), {}),
        ("MethodTable.hierarchy()", (), {}),
        ("MethodTable.count()", (), {}),
        ("MethodTable.points()", (), {}),
        ("MethodTable.has_method(value)", (("solid",),), {}),
        ("MethodTable.body(point)", (("solid",),), {}),
        ("MethodTable.with_method(point, body)", (("ball",), A), {}),
        ("MethodTable.without_method(point)", (("shape",),), {}),
        ("MethodTable.with_class(name, superclasses=())", ("cube", ("solid",)), {}),
        ("MethodTable.without_class(name)", ("ball",), {}),
    ],
    "calls": [
        ("applicable(table, point)", (TABLE, ("ball",)), {}),
        ("rivals(table, point)", (TABLE, ("ball",)), {}),
        ("just_above(table, point)", (TABLE, ("ball",)), {}),
        ("has_next(table, point)", (TABLE, ("solid",)), {}),
        ("expansion(table, point)", (TABLE, ("solid",)), {}),
        ("status(table, point)", (TABLE, ("ball",)), {}),
        ("answers(table)", (TABLE,), {}),
        ("call(table, point)", (TABLE, ("solid",)), {}),
    ],
    "reduction": [
        ("is_redundant(table, point)", (TABLE, ("shape",)), {}),
        ("redundant_points(table)", (TABLE,), {}),
        ("reduced(table)", (TABLE,), {}),
        ("removals(table)", (TABLE,), {}),
        ("is_removal_list(table, value)", (TABLE, [("shape",)]), {}),
        ("reason(table, point)", (TABLE, ("solid",)), {}),
        ("is_reason(table, point, value)", (TABLE, ("solid",), ("differs", ("thing",))), {}),
    ],
    "comparison": [
        ("is_equal_in_calls(first, second)", (TABLE, SETTLED), {}),
        ("highest_changes(first, second)", (TABLE, SETTLED), {}),
    ],
    "conflicts": [
        ("conflicts(table)", (TABLE,), {}),
        ("is_settled(table)", (SETTLED,), {}),
        ("decide(table, point, body)", (TABLE, ("ball",), A), {}),
        ("settle(table, body)", (TABLE, A), {}),
    ],
    "threats": [
        ("future_rivals(table, first, second)", (LATER, ("shape",), ("solid",)), {}),
        ("is_threat(table, first, second)", (LATER, ("shape",), ("solid",)), {}),
        ("threats(table)", (LATER,), {}),
        ("is_safe(table)", (LATER,), {}),
    ],
    "futures": [
        ("class_plan(table, first, second)", (LATER, ("shape",), ("solid",)), {}),
        (
            "is_class_plan(table, first, second, value)",
            (LATER, ("shape",), ("solid",), ([("x", ("shape", "solid"))], ("x",))), {},
        ),
        ("conflicts_with_class(table, name, superclasses=())", (LATER, "ball", ("shape", "solid")), {}),
    ],
    "receipts": [
        ("receipt_at(table, point)", (TABLE, ("thing",)), {}),
        ("is_receipt(table, value)", (TABLE, (("solid",), ())), {}),
        ("covers(table, receipt, point)", (TABLE, (("thing",), (("solid",),)), ("shape",)), {}),
        ("covered_points(table, receipt)", (TABLE, (("thing",), (("solid",),))), {}),
    ],
    "dispatcher": [
        ("Dispatcher(hierarchy)", (KINDS,), {}),
        ("Dispatcher.clone()", (), {}),
        ("Dispatcher.hierarchy()", (), {}),
        ("Dispatcher.functions()", (), {}),
        ("Dispatcher.table(function)", ("show",), {}),
        ("Dispatcher.call(function, point)", ("show", ("solid",)), {}),
        ("Dispatcher.add_function(name, count)", ("hide", 3), {}),
        ("Dispatcher.define(function, point, body)", ("show", ("thing",), B), {}),
        ("Dispatcher.drop(function, point)", ("show", ("shape",)), {}),
        ("Dispatcher.add_class(name, superclasses=())", ("cube", ("solid",)), {}),
        ("Dispatcher.remove_class(name)", ("die",), {}),
        ("Dispatcher.decide(function, point, body)", ("mark", ("ball", "ball"), A), {}),
        ("Dispatcher.reduce(function)", ("show",), {}),
        ("Dispatcher.watch(function, point)", ("show", ("thing",)), {}),
        ("Dispatcher.sites()", (), {}),
        ("Dispatcher.site(number)", (2,), {}),
    ],
    "modules": [
        (
            "Module(name, *, imports=(), classes=(), functions=(), methods=())", ("left",),
            {"imports": ("base",), "classes": LEFT.classes(), "functions": (("f", 1),), "methods": LEFT.methods()},
        ),
        ("Module.name()", (), {}),
        ("Module.imports()", (), {}),
        ("Module.classes()", (), {}),
        ("Module.functions()", (), {}),
        ("Module.methods()", (), {}),
    ],
    "linking": [
        ("link_order(modules)", (MODULES,), {}),
        ("linked(modules)", (MODULES,), {}),
        ("LinkedDispatcher.owner(function, point)", ("show", ("shape",)), {}),
        ("view_of(modules, name)", (MODULES, "left"), {}),
        ("own_removals(modules, name)", (MODULES, "left"), {}),
        ("link_conflicts(modules)", (MODULES,), {}),
    ],
    "running": [
        ("run(dispatcher, function, point, *, limit=MAX_RUN_STEPS)", (made_dispatcher(), "show", ("solid",)), {"limit": 2}),
    ],
    "operations": [
        ("is_operation(value)", (("reduce", "f"),), {}),
        ("write_operation(operation)", (("class", "a", ("b",)),), {}),
        ("read_operation(text)", ("class a b",), {}),
    ],
    "sessions": [
        ("Session()", (), {}),
        ("Session.operations()", (), {}),
        ("Session.dispatcher()", (), {}),
        ("Session.clone()", (), {}),
        ("Session.read(text)", (str(session_after(OPERATIONS)),), {}),
        ("Session.perform(operation)", (("define", "show", ("thing",), B),), {}),
        ("Session.perform_all(operations)", ([("class", "cube", ()), ("reduce", "show")],), {}),
        ("Session.undo()", (), {}),
        ("Session.redo()", (), {}),
        ("Session.run(function, point)", ("show", ("solid",)), {}),
    ],
    "console": [
        ("Console()", (), {}),
        ("Console.execute(command)", ("define show thing say b",), {}),
        ("Console.session()", (), {}),
    ],
}
# These change their objects.
EDITS = ("add_function", "define", "drop", "add_class", "remove_class", "decide", "reduce", "watch", "perform", "perform_all")
EDITS += ("undo", "redo", "execute")
ROWS = [(file, *row) for file, rows in INTERFACE.items() for row in rows]


def found_in(file, signature):
    """A function, a class, or a method of a new object with its object."""
    module = importlib.import_module("fewestmethods." + file)
    name = signature.split("(")[0]
    if "." not in name:
        return getattr(module, name), None
    class_name, method = name.split(".")
    holder = MAKERS[class_name]()
    return getattr(holder, method), holder


def shown(value):
    """A value that can be compared: consoles by their sessions, what is yielded as a list."""
    if isinstance(value, Console):
        return value.session()
    return list(value) if inspect.isgenerator(value) else value


class ArgumentsTest(support.Case):
    def result(self, file, signature, values, named):
        """The result of a call, and the object afterwards."""
        action, holder = found_in(file, signature)
        return shown(action(*values, **named)), shown(holder)

    def names_of(self, signature):
        """The names of the parameters before a star, which can be passed by position."""
        inside = signature.split("(", 1)[1][:-1]
        names = [part.split("=")[0] for part in inside.split(", ") if part]
        starred = [at for at, name in enumerate(names) if name.startswith("*")]
        return names[: starred[0]] if starred else names

    def test_parameters_have_the_names_and_defaults_of_the_document(self):
        for file, signature, _, _ in ROWS:
            with self.subTest(signature=signature):
                action, _ = found_in(file, signature)
                wanted = "(" + signature.split("(", 1)[1].replace("MAX_RUN_STEPS", "200")
                self.assertEqual(str(inspect.signature(action)), wanted)

    def test_by_position_and_by_name_in_any_order(self):
        for file, signature, values, behind in ROWS:
            names = self.names_of(signature)
            self.assertEqual(len(names), len(values), signature)
            wanted = self.result(file, signature, values, behind)
            for size in range(len(names) + 1):
                named = {**dict(zip(names[size:], values[size:])), **behind}
                with self.subTest(signature=signature, named=sorted(named)):
                    self.assertEqual(self.result(file, signature, values[:size], named), wanted)
                    if "**" not in signature:
                        backwards = dict(reversed(list(named.items())))
                        self.assertEqual(self.result(file, signature, values[:size], backwards), wanted)

    def test_defaults(self):
        seen = 0
        for file, signature, values, behind in ROWS:
            parameters = inspect.signature(found_in(file, signature)[0]).parameters.values()
            defaults = {one.name: one.default for one in parameters if one.default is not one.empty}
            needed = {
                name: value
                for name, value in [*zip(self.names_of(signature), values), *behind.items()]
                if name not in defaults
            }
            if defaults:
                seen += 1
                with self.subTest(signature=signature):
                    left_out = self.result(file, signature, (), needed)
                    self.assertEqual(left_out, self.result(file, signature, (), {**needed, **defaults}))
        self.assertEqual(seen, 8)

    def test_arguments_behind_a_star(self):
        self.assertEqual(KINDS.highest_common("shape", "solid"), ["ball"])
        for signature, action in (("Module", Module), ("run", found_in("running", "run")[0])):
            with self.subTest(signature=signature), self.assertRaises(TypeError):
                action(*[made_dispatcher(), "show", ("thing",), 200])

    def test_the_document_lists_them(self):
        if not SHARED_DOCUMENT.exists():
            self.skipTest("the document does not stand beside the project")
        text = SHARED_DOCUMENT.read_text().split("# The interface")[1]
        without_examples = re.sub("```.*?```", "", text, flags=re.DOTALL)
        listed = set(re.findall("`([A-Za-z_.]+[(][^`]*[)])`", without_examples))
        of_errors = {"NotFound(value)", "InvalidPoint(value)", "MethodsError(ValueError)"}
        self.assertEqual({signature for _, signature, _, _ in ROWS}, listed - of_errors)


class ResultsTest(support.Case):
    def test_arguments_stay_as_they_were(self):
        for file, signature, values, behind in ROWS:
            before = copy.deepcopy((values, behind))
            found_in(file, signature)[0](*values, **behind)
            with self.subTest(signature=signature):
                self.assertEqual((values, behind), before)

    def test_results_are_new_and_the_same_again(self):
        for file, signature, values, behind in ROWS:
            if signature.split("(")[0].split(".")[-1] in EDITS:
                continue
            action, holder = found_in(file, signature)
            before = copy.deepcopy(shown(holder))
            first = shown(action(*values, **behind))
            wanted = copy.deepcopy(first)
            self.empty(first)
            with self.subTest(signature=signature):
                self.assertEqual(shown(action(*values, **behind)), wanted)
                self.assertEqual(shown(holder), before)

    def empty(self, value):
        """Empties all lists and dicts in a value."""
        if isinstance(value, (list, tuple)):
            for item in value:
                self.empty(item)
        if isinstance(value, (list, dict)):
            value.clear()

    def test_errors_have_new_lists_too(self):
        dispatcher = made_dispatcher()
        first = support.outcome_of(dispatcher.call, "show", ("ball",))
        first[1]["rivals"].clear()
        wanted = ("Ambiguous", {"point": ("ball",), "rivals": [("shape",), ("solid",)]})
        self.assertEqual(support.outcome_of(dispatcher.call, "show", ("ball",)), wanted)


class ClassValuesTest(support.Case):
    def test_off_the_class_and_off_an_object(self):
        for holder in (Hierarchy, KINDS):
            self.assert_same(holder.LIMIT, 20)
        for holder in (MethodTable, TABLE):
            self.assert_same(holder.LIMIT, 40)
        for holder in (Dispatcher, made_dispatcher(), linked(MODULES)):
            self.assert_same((holder.MAX_FUNCTIONS, holder.MAX_SITES), (8, 20))

    def test_of_files(self):
        for file, name, value in (("points", "MAX_PARAMETERS", 3), ("linking", "MAX_MODULES", 8), ("running", "MAX_RUN_STEPS", 200)):
            self.assert_same(getattr(importlib.import_module("fewestmethods." + file), name), value)

    def test_static_and_class_methods_off_an_object(self):
        self.assertIs(TABLE.is_count(3), True)
        self.assertIs(MethodTable.is_count(True), False)
        self.assertEqual(KINDS.read(str(THREE)), THREE)
        self.assertEqual(KINDS.of(a=()), Hierarchy([("a", ())]))
        self.assertEqual(made_session().read(""), Session())

    def test_what_is_yielded(self):
        self.assertTrue(inspect.isgenerator(answers(TABLE)))


if __name__ == "__main__":
    unittest.main()
