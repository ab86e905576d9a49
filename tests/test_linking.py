"""Linking: link order, links, views, own removals and conflicts, points [25] and [26]; ALONE of point [4]."""

import itertools
import random
import unittest

import support
from fewestmethods.conflicts import conflicts
from fewestmethods.dispatcher import Dispatcher
from fewestmethods.errors import InvalidModules
from fewestmethods.errors import NotFound
from fewestmethods.hierarchy import Hierarchy
from fewestmethods.linking import LinkedDispatcher
from fewestmethods.linking import link_conflicts
from fewestmethods.linking import link_order
from fewestmethods.linking import linked
from fewestmethods.linking import own_removals
from fewestmethods.linking import view_of
from fewestmethods.modules import Module
from fewestmethods.reduction import reduced
from fewestmethods.tables import MethodTable

A = (("say", "a"),)
B = (("say", "b"),)
NEXT = (("next",),)
BASE = Module("base", classes=(("thing", ()),), functions=(("show", 1),), methods=(("show", ("thing",), A),))
LEFT = Module("left", imports=("base",), classes=(("shape", ("thing",)),), methods=(("show", ("shape",), A),))
RIGHT = Module("right", imports=("base",), classes=(("solid", ("thing",)),), methods=(("show", ("solid",), B),))
BOTH = Module(
    "both", imports=("left", "right"), classes=(("ball", ("shape", "solid")),), functions=(("mark", 2),),
    methods=(("mark", ("thing", "ball"), A), ("mark", ("ball", "thing"), B)),
)
SYSTEM = [BASE, LEFT, RIGHT, BOTH]


def imported_by_definition(modules, module):
    """The names of the modules that a module imports directly or indirectly."""
    direct = [one for one in modules if one.name() in module.imports()]
    return set(module.imports()).union(*[imported_by_definition(modules, one) for one in direct])


def order_by_definition(modules):
    """Of the modules all of whose imports have been taken, the one whose name is first, again and again."""
    taken = []
    while len(taken) < len(modules):
        ready = [one for one in modules if one not in taken and set(one.imports()) <= {other.name() for other in taken}]
        taken.append(min(ready, key=lambda one: one.name()))
    return taken


def tables_by_definition(modules):
    """What is linked from modules: a hierarchy and a dict from functions, in order, to tables."""
    ordered = order_by_definition(modules)
    hierarchy = Hierarchy([row for module in ordered for row in module.classes()])
    tables = {}
    for name, count in [row for module in ordered for row in module.functions()]:
        methods = {point: body for module in ordered for function, point, body in module.methods() if function == name}
        tables[name] = MethodTable(hierarchy, count, methods)
    return hierarchy, tables


def sample_system(source, size):
    """A system of modules with several functions, with methods of importing modules, and with next steps."""
    modules = []
    class_letters, function_letters = iter("abcdefghijklmnopqrst"), iter("uvwxyz")
    for name in source.sample(["m" + letter for letter in "abcdefgh"], size):
        earlier = [one.name() for one in modules]
        imports = tuple(source.sample(earlier, min(len(earlier), source.randint(0, 3))))
        seen = [one for one in modules if one.name() in imported_by_definition(modules, Module(name, imports=imports))]
        names = [row[0] for one in seen for row in one.classes()]
        counts = {row[0]: row[1] for one in seen for row in one.functions()}
        classes, functions = [], []
        for _ in range(source.randint(1, 2)):
            classes.append((next(class_letters), tuple(source.sample(names, min(len(names), source.randint(0, 2))))))
            names.append(classes[-1][0])
        if source.random() < 0.5 and len(modules) < 6:
            functions.append((next(function_letters), source.randint(1, 2)))
            counts[functions[-1][0]] = functions[-1][1]
        methods = {}
        for _ in range(source.randint(0, 5)):
            if counts:
                function = source.choice(list(counts))
                point = tuple(source.choices(names, k=counts[function]))
                if function in dict(functions) or set(point) & set(dict(classes)):
                    methods[(function, point)] = source.choice(support.PLAIN_BODIES[:2] + support.NEXT_BODIES[:2])
        modules.append(fitting_module(modules, name, imports, classes, functions, methods))
    source.shuffle(modules)
    return modules


def fitting_module(modules, name, imports, classes, functions, methods):
    """The module with these parts, where a next step without a next is left out."""
    parts = {"imports": imports, "classes": tuple(classes), "functions": tuple(functions)}
    while True:
        rows = tuple((function, point, body) for (function, point), body in methods.items())
        module = Module(name, **parts, methods=rows)
        try:
            link_order([*modules, module])
            return module
        except InvalidModules as error:
            assert error.problem == "next", error.problem
            at = next(key for key, body in methods.items() if ("next",) in body)
            methods[at] = tuple(step for step in methods[at] if step != ("next",))


def sample_systems(seed, amount):
    source = random.Random(seed)
    return [sample_system(source, at % 8 + 1) for at in range(amount)]


class LinkOrderTest(support.Case):
    def test_any_order_of_the_list(self):
        for modules in itertools.permutations(SYSTEM):
            self.assert_same(link_order(list(modules)), ["base", "left", "right", "both"])
        self.assert_same(link_order(modules=[BASE]), ["base"])

    def test_by_name_among_those_that_are_ready(self):
        cases = [
            ({"a": "z", "b": "", "z": ""}, ["b", "z", "a"]),
            ({"a": "", "aa": "", "ab": "", "b": ""}, ["a", "aa", "ab", "b"]),
            ({"a": "c", "b": "a", "c": "d", "d": ""}, ["d", "c", "a", "b"]),
            ({"a": "bc", "b": "d", "c": "", "d": ""}, ["c", "d", "b", "a"]),
            ({"h": "", "g": "h", "f": "h", "e": "g", "d": "f", "c": "", "b": "c", "a": "be"}, list("cbhfdgea")),
        ]
        for imports, wanted in cases:
            modules = [Module(name, imports=tuple(names)) for name, names in imports.items()]
            for shift in range(len(modules)):
                self.assert_same(link_order(modules[shift:] + modules[:shift]), wanted)
                self.assert_same(link_order(modules[shift:][::-1] + modules[:shift]), wanted)

    def test_samples(self):
        for modules in sample_systems(801, 80):
            self.assert_same(link_order(modules), [one.name() for one in order_by_definition(modules)])


class LinkedTest(support.Case):
    def assert_linked(self, dispatcher, modules):
        hierarchy, tables = tables_by_definition(modules)
        self.assertIs(type(dispatcher), LinkedDispatcher)
        self.assertIsInstance(dispatcher, Dispatcher)
        self.assertEqual(dispatcher.hierarchy(), hierarchy)
        self.assertEqual(dispatcher.functions(), list(tables))
        self.assertEqual(dispatcher.sites(), [])
        for name, table in tables.items():
            self.assertEqual(dispatcher.table(name), table)
        owners = {(row[0], row[1]): module.name() for module in modules for row in module.methods()}
        for (function, point), owner in owners.items():
            self.assert_same(dispatcher.owner(function, point), owner)
        self.assertEqual(sum(len(table) for table in tables.values()), len(owners))

    def test_samples(self):
        sizes, methods = set(), 0
        for modules in sample_systems(802, 160):
            sizes.add(len(modules))
            methods += sum(len(one.methods()) > 1 for one in modules)
            before = list(modules)
            self.assert_linked(linked(modules), modules)
            self.assertEqual(linked(modules=modules), linked(modules[::-1]))
            self.assertEqual(modules, before)
        self.assertEqual(sizes, set(range(1, 9)))
        self.assertGreater(methods, 100)

    def test_every_order_of_a_short_list(self):
        for modules in sample_systems(803, 40):
            first = linked(modules[:1]) if len(modules) == 1 else linked(modules)
            for chosen in itertools.islice(itertools.permutations(modules), 24):
                self.assertEqual(linked(list(chosen)), first)
                self.assertEqual(link_conflicts(list(chosen)), link_conflicts(modules))

    def test_modules_without_anything(self):
        dispatcher = linked([Module("b"), Module("a")])
        self.assertEqual(dispatcher, Dispatcher(Hierarchy()))
        self.assertEqual(link_conflicts([Module("b"), Module("a")]), [])

    def test_links_are_independent(self):
        first, second = linked(SYSTEM), linked(SYSTEM)
        first.define("show", ("thing",), B)
        first.add_class("more")
        self.assertEqual(second, linked(SYSTEM))
        self.assertEqual(second.owner("show", ("thing",)), "base")

    def test_later_changes_of_the_list_have_no_effect(self):
        modules = list(SYSTEM)
        dispatcher = linked(modules)
        modules.clear()
        self.assertEqual(dispatcher, linked(SYSTEM))

    def test_views(self):
        for modules in sample_systems(804, 120):
            for module in modules:
                seen = imported_by_definition(modules, module) | {module.name()}
                chosen = [one for one in modules if one.name() in seen]
                self.assert_linked(view_of(modules, module.name()), chosen)
                self.assertEqual(view_of(name=module.name(), modules=modules), linked(chosen))

    def test_views_by_hand(self):
        for modules in itertools.permutations(SYSTEM):
            self.assertEqual(view_of(list(modules), "base").hierarchy().names(), ["thing"])
            self.assertEqual(view_of(list(modules), "right").table("show").points(), [("thing",), ("solid",)])
            self.assertEqual(view_of(list(modules), "both"), linked(SYSTEM))
            self.assertEqual(view_of(list(modules), "left").functions(), ["show"])

    def test_names_that_are_no_modules(self):
        for value in support.NO_CLASSES + ("thing", "show", BASE, "bas", "bases", ["base"], ("base",)):
            for action in (view_of, own_removals):
                self.assert_raises(NotFound, value, action, SYSTEM, value)
                wrong = {"problem": "import", "module": "left"}
                self.assert_error(InvalidModules, wrong, action, [LEFT, RIGHT], value)

    def test_conflicts(self):
        found = 0
        for modules in sample_systems(805, 120):
            tables = tables_by_definition(modules)[1]
            wanted = [(name, point) for name, table in tables.items() for point in conflicts(table)]
            self.assert_same(link_conflicts(modules), wanted)
            found += len(wanted) > 1
        self.assertGreater(found, 5)
        for modules in itertools.permutations(SYSTEM):
            self.assert_same(link_conflicts(list(modules)), [("show", ("ball",)), ("mark", ("ball", "ball"))])
        self.assert_same(link_conflicts(modules=[BASE, LEFT, RIGHT]), [])


class OwnRemovalsTest(support.Case):
    def test_by_hand(self):
        for modules in itertools.permutations(SYSTEM):
            self.assert_same(own_removals(list(modules), "left"), [("show", ("shape",))])
            for name in ("base", "right", "both"):
                self.assert_same(own_removals(list(modules), name), [])
        self.assert_same(own_removals(name="left", modules=[LEFT, BASE]), [("show", ("shape",))])

    def test_functions_in_the_order_of_the_view_and_points_as_listed(self):
        base = Module("base", classes=(("a", ()), ("b", ("a",)), ("c", ("a",))), functions=(("z", 1), ("f", 1)), methods=(
            ("f", ("a",), A), ("z", ("c",), A), ("f", ("c",), NEXT), ("z", ("b",), A), ("f", ("b",), A), ("z", ("a",), A),
        ))
        wanted = [("z", ("b",)), ("z", ("c",)), ("f", ("b",)), ("f", ("c",))]
        self.assert_same(own_removals([base], "base"), wanted)

    def test_removed_only_after_others_of_an_imported_module(self):
        base = Module(
            "base", classes=(("a", ()), ("b", ("a",)), ("c", ("a",))), functions=(("f", 1),),
            methods=(("f", ("a",), A), ("f", ("b",), A), ("f", ("c",), B)),
        )
        low = Module("low", imports=("base",), classes=(("d", ("b", "c")),), methods=(("f", ("d",), B),))
        self.assert_same(own_removals([low, base], "base"), [("f", ("b",))])
        self.assert_same(own_removals([low, base], "low"), [("f", ("d",))])

    def test_the_own_removals_are_those_of_the_link(self):
        removed_in_all = 0
        for modules in sample_systems(806, 200):
            tables = tables_by_definition(modules)[1]
            for module in modules:
                wanted = []
                for name in view_of(modules, module.name()).functions():
                    left = reduced(tables[name])
                    own = [point for function, point, _ in module.methods() if function == name]
                    wanted += [(name, point) for point in tables[name].points() if point in own and point not in left.points()]
                self.assertEqual(sorted(own_removals(modules, module.name())), sorted(wanted))
                self.assertEqual(own_removals(modules[::-1], module.name()), own_removals(modules, module.name()))
                removed_in_all += len(wanted)
        self.assertGreater(removed_in_all, 50)

    def test_reduced_alone_before_linking(self):
        for modules in sample_systems(807, 120):
            smaller = []
            for module in modules:
                gone = own_removals(modules, module.name())
                left = tuple(row for row in module.methods() if row[:2] not in gone)
                smaller.append(Module(
                    module.name(), imports=module.imports(), classes=module.classes(), functions=module.functions(),
                    methods=left,
                ))
            whole = linked(modules)
            for function in whole.functions():
                whole.reduce(function)
            self.assertEqual(linked(smaller), whole)


if __name__ == "__main__":
    unittest.main()
