"""Modules, point [24]."""

import itertools
import unittest

import support
from fewestmethods.errors import InvalidModule
from fewestmethods.modules import Module

A = (("say", "a"),)
CLASSES = (("thing", ()), ("ball", ("thing", "shape")))
FUNCTIONS = (("show", 1), ("mark", 3))
METHODS = (("show", ("thing",), A), ("mark", ("a", "b", "c"), (("next",), ("call", "f", (2, "x")))), ("show", ("thing",), ()))
PARTS = {"imports": ("base", "left"), "classes": CLASSES, "functions": FUNCTIONS, "methods": METHODS}

NO_NAMES = support.STRANGE + support.NUMBERS + support.LISTS + support.TUPLES + tuple(support.STRINGS[:-1])
NO_TUPLES = support.STRANGE + support.NUMBERS + support.LISTS + support.STRINGS
NO_CLASSES = NO_TUPLES + (
    (), ("a",), ("a", (), ()), ("a", ["b"]), ("a", None), ("a", "b"), ("a", ("b", "b")), ("a", ("B",)), ("a", (None,)),
    ("a", (["b"],)), ("a", ("b", "c", "b")), ("", ()), ("A", ()), (None, ()), (["a"], ()), ("abcdefghi", ()), ["a", ()],
    ("a", ("",)), ("a", {}), ("a", ((),)), ("a", 1), ((), "a"), ("a", (True,)),
)
NO_FUNCTIONS = NO_TUPLES + (
    (), ("f",), ("f", 0), ("f", 4), ("f", -1), ("f", True), ("f", None), ("f", "1"), ("f", (1,)), ("f", 1, 1), ["f", 1],
    ("F", 1), ("", 1), (None, 1), (1, "f"), (["f"], 1), ("abcdefghi", 1), ("f", [1]), ("f", 10**59), ("f", False),
)
NO_METHODS = NO_TUPLES + (
    (), ("f",), ("f", ("a",)), ("f", ("a",), A, A), ["f", ("a",), A], ("F", ("a",), A), (None, ("a",), A), ("f", (), A),
    ("f", ("a", "b", "c", "d"), A), ("f", ["a"], A), ("f", "a", A), ("f", ("A",), A), ("f", (None,), A), ("f", None, A),
    ("f", ("a", ["b"]), A), ("f", ("a",), None), ("f", ("a",), []), ("f", ("a",), [("say", "a")]), ("f", ("a",), ("next",)),
    ("f", ("a",), (("next",), ("next",))), ("f", ("a",), (("call", "g", (3,)),)), ("f", ("a",), (("call", "g", (True,)),)),
    ("f", ("a",), (("say", "A"),)), ("f", ("a",), (["say", "a"],)), ((), ("a",), A), ("f", A, ("a",)), ("f", ({},), ()),
    (["f"], ("a",), ()), ("f", ("a",), 1), ("f", ("a",), True), ("f", ("",), ()), ("f", ("a",), "say a"),
)
WRONG = {"classes": ("class", NO_CLASSES), "functions": ("function", NO_FUNCTIONS), "methods": ("method", NO_METHODS)}


class MadeTest(support.Case):
    def test_each_part_given_and_left_out(self):
        for size in range(5):
            for names in itertools.combinations(PARTS, size):
                given = {name: PARTS[name] for name in names}
                for module in (Module("right", **given), Module(name="right", **given)):
                    self.assert_same(module.name(), "right")
                    self.assert_same(module.imports(), given.get("imports", ()))
                    self.assert_same(module.classes(), given.get("classes", ()))
                    self.assert_same(module.functions(), given.get("functions", ()))
                    self.assert_same(module.methods(), given.get("methods", ()))

    def test_names_in_any_order(self):
        for names in itertools.permutations(PARTS):
            self.assertEqual(Module(**{name: PARTS[name] for name in names}, name="right"), Module("right", **PARTS))

    def test_only_the_name_by_position(self):
        with self.assertRaises(TypeError):
            Module("right", ())
        with self.assertRaises(TypeError):
            Module()

    def test_edges(self):
        self.assertEqual(Module("abcdefgh").name(), "abcdefgh")
        names = tuple(first + second for first in "abcdefgh" for second in "xyz")
        self.assertEqual(Module("a", imports=names).imports(), names)
        for count in (1, 2, 3):
            body = (("call", "f", (0, 1, 2)),)
            module = Module("a", functions=(("f", count),), methods=(("f", ("x",) * count, body),))
            self.assertEqual(module.methods(), (("f", ("x",) * count, body),))
            self.assertEqual(module.functions(), (("f", count),))

    def test_a_module_is_not_checked_against_others_or_itself(self):
        for parts in (
            {"classes": (("a", ()), ("a", ()))},
            {"classes": (("b", ("a",)), ("a", ("a",)))},
            {"functions": (("f", 1), ("f", 2))},
            {"methods": (("f", ("a",), A), ("f", ("a",), A))},
            {"functions": (("f", 1),), "methods": (("f", ("a", "b"), (("next",),)),)},
            {"classes": tuple((first + second, ()) for first in "abcde" for second in "vwxyz")},
            {"functions": tuple((letter, 1) for letter in "abcdefghi")},
        ):
            module = Module("right", **parts)
            self.assert_same(module.classes(), parts.get("classes", ()))


class WrongTest(support.Case):
    def assert_wrong(self, problem, position, *values, **parts):
        with self.subTest(problem=problem, position=position, values=values, parts=parts):
            self.assert_error(InvalidModule, {"problem": problem, "position": position}, Module, *values, **parts)

    def test_names(self):
        for value in NO_NAMES:
            self.assert_wrong("name", 0, value)
            self.assert_wrong("name", 0, value, imports=None, classes=None, functions=None, methods=None)

    def test_parts_that_are_no_tuples(self):
        for name, value in itertools.product(PARTS, NO_TUPLES):
            self.assert_wrong(name, 0, "right", **{name: value})
            self.assert_wrong(name, 0, "right", **{**PARTS, name: value})

    def test_imports(self):
        for value in NO_NAMES + ("right", "b"):
            self.assert_wrong("import", 0, "right", imports=(value,) if value != "b" else ("right", "b"))
            self.assert_wrong("import", 1, "right", imports=("b", value, "c"))
            self.assert_wrong("import", 2, "right", imports=("b", "c", value))
        self.assert_wrong("import", 2, "right", imports=("b", "c", "c", "b", None))

    def test_parts_at_any_index(self):
        for name, (problem, wrong) in WRONG.items():
            good = PARTS[name]
            for value in wrong:
                self.assert_wrong(problem, 0, "right", **{name: (value,)})
                self.assert_wrong(problem, 0, "right", **{name: (value, *good)})
                self.assert_wrong(problem, 1, "right", **{name: (good[0], value, good[1])})
                self.assert_wrong(problem, len(good), "right", **{name: (*good, value)})
                self.assert_wrong(problem, 1, "right", **{name: (good[0], value, value, good[0], None)})

    def test_two_at_once_in_the_order_of_the_interface(self):
        problems = [
            ("imports", 0, {"imports": []}),
            ("import", 1, {"imports": ("b", "right")}),
            ("classes", 0, {"classes": []}),
            ("class", 1, {"classes": (("a", ()), ("a", []))}),
            ("functions", 0, {"functions": None}),
            ("function", 2, {"functions": (("a", 1), ("b", 2), ("c", 0))}),
            ("methods", 0, {"methods": {}}),
            ("method", 0, {"methods": (("f", (), ()),)}),
        ]
        for (problem, position, first), (_, _, second) in itertools.combinations(problems, 2):
            if list(first) != list(second):
                self.assert_wrong(problem, position, "right", **second, **first)
                self.assert_wrong("name", 0, "Right", **first, **second)


class EqualTest(support.Case):
    def test_equal(self):
        self.assertTrue(Module("right", **PARTS) == Module("right", **PARTS))
        self.assertFalse(Module("right", **PARTS) != Module("right", **PARTS))

    def test_all_five_count(self):
        others = [Module("other", **PARTS), Module("left", **{**PARTS, "imports": ("base",)})]
        for name in PARTS:
            others.append(Module("right", **{**PARTS, name: ()}))
            others.append(Module("right", **{**PARTS, name: PARTS[name][::-1]}))
        others.append(Module("right", **PARTS))
        for first, second in itertools.product(others, repeat=2):
            self.assertIs(first == second, first is second)
            self.assertIs(first != second, first is not second)

    def test_values_of_other_kinds(self):
        module = Module("right")
        for value in support.NO_CLASSES + ("right", ("right", (), (), (), ()), Module):
            self.assertIs(module == value, False)
            self.assertIs(value == module, False)
            self.assertIs(module != value, True)

    def test_repr(self):
        self.assertEqual(repr(Module("right", **PARTS)), "Module('right')")
        self.assertEqual(repr([Module("a"), Module("b")]), "[Module('a'), Module('b')]")

    def test_a_module_never_changes(self):
        parts = dict(PARTS)
        module = Module("right", **parts)
        parts.clear()
        for _ in range(2):
            self.assertEqual(module, Module("right", **PARTS))
            for value in (module.imports(), module.classes(), module.functions(), module.methods()):
                self.assertIsInstance(value, tuple)


if __name__ == "__main__":
    unittest.main()
