"""Systems of modules: each problem of point [25], and the order in which they are found."""

import itertools
import unittest

import support
from fewestmethods import linking
from fewestmethods.errors import InvalidModules
from fewestmethods.linking import link_order
from fewestmethods.modules import Module

A = (("say", "a"),)
NEXT = (("next",),)
ACTIONS = (
    linking.link_order,
    linking.linked,
    linking.link_conflicts,
    lambda modules: linking.view_of(modules, "base"),
    lambda modules: linking.own_removals(modules, "base"),
    lambda modules: linking.view_of(modules, None),
    lambda modules: linking.own_removals(modules, []),
)

BASE = Module("base", classes=(("thing", ()),), functions=(("show", 1),), methods=(("show", ("thing",), A),))
LEFT = Module("left", imports=("base",), classes=(("shape", ("thing",)),), methods=(("show", ("shape",), A),))
FREE = Module("free", classes=(("lone", ()),), functions=(("hide", 2),), methods=(("hide", ("lone", "lone"), ()),))


class SystemCase(support.Case):
    def assert_no_system(self, problem, module, modules):
        for action in ACTIONS:
            with self.subTest(problem=problem, module=module, modules=modules):
                self.assert_error(InvalidModules, {"problem": problem, "module": module}, action, modules)

    def assert_system(self, modules):
        self.assertEqual(sorted(link_order(modules)), sorted(module.name() for module in modules))

    def assert_at_each_place(self, problem, module, others=(BASE, LEFT, FREE)):
        """The module is found wherever it stands among modules that are no problem."""
        for at in range(len(others) + 1):
            self.assert_no_system(problem, module.name(), [*others[:at], module, *others[at:]])


class ListTest(SystemCase):
    def test_values_that_are_no_lists_of_modules(self):
        values = support.STRANGE + support.NUMBERS + support.STRINGS + support.TUPLES + support.LISTS
        for value in values + (BASE, (BASE,), {"base": BASE}, {0: BASE}, Module):
            self.assert_no_system("list", "", value)
            if not isinstance(value, Module):
                self.assert_no_system("list", "", [value])
                self.assert_no_system("list", "", [BASE, value])
                self.assert_no_system("list", "", [value, BASE, LEFT])
        self.assert_no_system("list", "", [])
        self.assert_no_system("list", "", [[BASE]])

    def test_one_to_eight(self):
        self.assertEqual(linking.MAX_MODULES, 8)
        modules = [Module(letter) for letter in "abcdefghi"]
        for size in range(1, 9):
            self.assert_system(modules[:size])
        self.assert_no_system("list", "", modules)
        self.assert_no_system("list", "", modules * 2)
        self.assert_no_system("list", "", [modules[0]] * 9)

    def test_duplicate(self):
        self.assert_no_system("duplicate", "base", [BASE, BASE])
        self.assert_no_system("duplicate", "base", [BASE, LEFT, FREE, Module("base")])
        self.assert_no_system("duplicate", "free", [BASE, FREE, Module("free", imports=("x",)), Module("base")])
        self.assert_no_system("duplicate", "base", [FREE, BASE, LEFT, BASE, FREE])


class ImportsTest(SystemCase):
    def test_imports_of_no_module(self):
        self.assert_at_each_place("import", Module("wrong", imports=("x",)))
        self.assert_at_each_place("import", Module("wrong", imports=("base", "left", "thing")))
        self.assert_no_system("import", "left", [LEFT])
        both = [Module("one", imports=("x",)), Module("two", imports=("y",))]
        self.assert_no_system("import", "one", both)
        self.assert_no_system("import", "two", both[::-1])

    def test_cycles(self):
        two = [Module("one", imports=("two",)), Module("two", imports=("one",))]
        three = [Module("one", imports=("two",)), Module("two", imports=("x", "three")), Module("three", imports=("one",))]
        for cycle in (two, [*three, Module("x")]):
            for modules in itertools.permutations([*cycle, BASE]):
                inside = [one.name() for one in modules if one.name() in ("one", "two", "three")]
                self.assert_no_system("cycle", inside[0], list(modules))

    def test_a_module_that_only_imports_a_cycle_is_not_in_it(self):
        above = Module("above", imports=("one",))
        cycle = [Module("one", imports=("two",)), Module("two", imports=("one",))]
        self.assert_no_system("cycle", "one", [above, *cycle])
        self.assert_no_system("cycle", "two", [above, *cycle[::-1]])

    def test_a_module_cannot_import_itself_directly(self):
        with self.assertRaises(ValueError):
            Module("one", imports=("one",))

    def test_imports_without_a_cycle(self):
        top = Module("top")
        left, right = Module("l", imports=("top",)), Module("r", imports=("top",))
        low = Module("low", imports=("l", "r", "top"))
        for modules in itertools.permutations([top, left, right, low]):
            self.assert_system(list(modules))


class ClassesTest(SystemCase):
    def test_a_name_twice_in_one_module(self):
        for classes in ((("a", ()), ("a", ())), (("a", ()), ("b", ("a",)), ("a", ("b",))), (("a", ()), ("a", ("a",)))):
            self.assert_at_each_place("class", Module("wrong", classes=classes))

    def test_a_name_in_two_modules(self):
        again = Module("again", classes=(("x", ()), ("thing", ())))
        self.assert_no_system("class", "base", [BASE, again])
        self.assert_no_system("class", "again", [again, BASE])
        self.assert_no_system("class", "again", [FREE, again, LEFT, BASE])
        self.assert_no_system("class", "base", [FREE, LEFT, BASE, again])
        below = Module("below", imports=("base",), classes=(("thing", ()),))
        self.assert_no_system("class", "below", [LEFT, below, BASE])

    def test_superclasses_of_the_same_module(self):
        self.assert_system([Module("one", classes=(("a", ()), ("b", ("a",)), ("c", ("b", "a"))))])
        self.assert_at_each_place("class", Module("wrong", classes=(("b", ("a",)), ("a", ()))))
        self.assert_at_each_place("class", Module("wrong", classes=(("a", ("a",)),)))
        self.assert_at_each_place("class", Module("wrong", classes=(("a", ()), ("b", ("a", "x")))))

    def test_superclasses_of_imported_modules(self):
        deep = Module("deep", imports=("left",), classes=(("ball", ("thing", "shape")),))
        for modules in itertools.permutations([BASE, LEFT, deep]):
            self.assert_system(list(modules))
        self.assert_at_each_place("class", Module("wrong", classes=(("ball", ("thing",)),)))
        self.assert_at_each_place("class", Module("wrong", imports=("base",), classes=(("ball", ("thing", "shape")),)))
        self.assert_at_each_place("class", Module("wrong", imports=("base", "left"), classes=(("ball", ("lone",)),)))

    def test_a_module_that_is_imported_does_not_see_the_importing_one(self):
        low = Module("low", imports=("high",), classes=(("a", ()),))
        high = Module("high", classes=(("b", ("a",)),))
        self.assert_no_system("class", "high", [low, high])


class FunctionsTest(SystemCase):
    def test_a_name_twice(self):
        for functions in ((("f", 1), ("f", 1)), (("f", 1), ("g", 2), ("f", 3))):
            self.assert_at_each_place("function", Module("wrong", functions=functions))
        again = Module("again", functions=(("x", 1), ("show", 2)))
        self.assert_no_system("function", "base", [BASE, again])
        self.assert_no_system("function", "again", [again, BASE])
        self.assert_no_system("function", "again", [FREE, again, LEFT, BASE])

    def test_the_name_of_a_class_is_free(self):
        self.assert_system([BASE, Module("more", functions=(("thing", 1), ("base", 2)), classes=(("show", ()),))])


class MethodsTest(SystemCase):
    def assert_wrong_method(self, methods, **parts):
        module = Module("wrong", **parts, methods=methods)
        for at in range(4):
            others = [BASE, LEFT, FREE]
            self.assert_no_system("method", "wrong", [*others[:at], module, *others[at:]])

    def assert_good_method(self, methods, **parts):
        self.assert_system([BASE, LEFT, FREE, Module("good", **parts, methods=methods)])

    def test_seen_functions_and_classes(self):
        own = {"classes": (("mine", ()),), "functions": (("make", 1),)}
        self.assert_good_method((("make", ("mine",), A),), **own)
        self.assert_good_method((("make", ("thing",), A), ("make", ("shape",), A)), imports=("left",), **own)
        self.assert_good_method((("show", ("mine",), A),), imports=("left",), **own)
        self.assert_wrong_method((("make", ("thing",), A),), **own)
        self.assert_wrong_method((("make", ("mine",), A), ("make", ("shape",), A)), imports=("base",), **own)
        self.assert_wrong_method((("show", ("mine",), A),), **own)
        self.assert_wrong_method((("hide", ("mine", "mine"), A),), imports=("left",), **own)
        self.assert_wrong_method((("none", ("mine",), A),), imports=("left", "free"), **own)
        self.assert_wrong_method((("make", ("none",), A),), imports=("left", "free"), **own)

    def test_one_class_of_the_point_is_not_seen(self):
        own = {"imports": ("base",), "classes": (("mine", ()),), "functions": (("make", 2),)}
        self.assert_good_method((("make", ("mine", "thing"), A), ("make", ("thing", "mine"), A)), **own)
        for point in (("mine", "none"), ("none", "mine"), ("mine", "lone"), ("shape", "thing"), ("thing", "shape")):
            self.assert_wrong_method((("make", point, A),), **own)

    def test_the_module_owns_the_function_or_a_class(self):
        self.assert_good_method((("make", ("thing",), A),), imports=("base",), functions=(("make", 1),))
        self.assert_good_method((("show", ("mine",), A),), imports=("base",), classes=(("mine", ("thing",)),))
        for point in (("mine", "lone"), ("lone", "mine"), ("mine", "mine")):
            self.assert_good_method((("hide", point, A),), imports=("free",), classes=(("mine", ()),))
        self.assert_wrong_method((("show", ("shape",), A),), imports=("left",), classes=(("mine", ()),))
        self.assert_wrong_method((("hide", ("lone", "thing"), A),), imports=("free", "left"), functions=(("make", 1),))

    def test_the_length_of_the_point(self):
        for count, length in itertools.product((1, 2, 3), repeat=2):
            parts = {"classes": (("mine", ()),), "functions": (("make", count),)}
            methods = (("make", ("mine",) * length, A),)
            if count == length:
                self.assert_good_method(methods, **parts)
            else:
                self.assert_wrong_method(methods, **parts)

    def test_the_body(self):
        for count, index in itertools.product((1, 2, 3), (0, 1, 2)):
            parts = {"classes": (("mine", ()),), "functions": (("make", count),)}
            methods = (("make", ("mine",) * count, (("say", "a"), ("call", "any", ("mine", index)))),)
            if index < count:
                self.assert_good_method(methods, **parts)
            else:
                self.assert_wrong_method(methods, **parts)

    def test_the_same_function_and_point_twice(self):
        parts = {"classes": (("a", ()), ("b", ())), "functions": (("f", 1), ("g", 1))}
        self.assert_good_method((("f", ("a",), A), ("g", ("a",), A), ("f", ("b",), A)), **parts)
        self.assert_wrong_method((("f", ("a",), A), ("g", ("a",), A), ("f", ("a",), A)), **parts)
        self.assert_wrong_method((("f", ("a",), A), ("f", ("a",), ())), **parts)

    def test_the_first_of_several_modules(self):
        one = Module("one", classes=(("a", ()),), methods=(("f", ("a",), A),))
        two = Module("two", classes=(("b", ()),), methods=(("f", ("b",), A),))
        self.assert_no_system("method", "one", [BASE, one, two])
        self.assert_no_system("method", "two", [two, BASE, one])


class ManyTest(SystemCase):
    def test_classes(self):
        first = Module("first", classes=tuple((letter, ()) for letter in support.TWENTY[:12]))
        second = Module("second", classes=tuple((letter, ()) for letter in support.TWENTY[12:]))
        self.assert_system([first, second])
        self.assert_no_system("many", "", [first, second, Module("third", classes=(("u", ()),))])
        self.assert_no_system("many", "", [Module("one", classes=tuple((letter, ()) for letter in "abcdefghijklmnopqrstu"))])

    def test_functions(self):
        first = Module("first", functions=tuple((letter, 1) for letter in "abcde"))
        second = Module("second", functions=tuple((letter, 2) for letter in "fgh"))
        self.assert_system([first, second])
        self.assert_no_system("many", "", [Module("third", functions=(("i", 3),)), first, second])

    def test_methods(self):
        points = list(itertools.product("abcdefg", repeat=2))
        classes = tuple((letter, ()) for letter in "abcdefg")
        for amounts, is_system in (((40, 40), True), ((41, 0), False), ((0, 41), False), ((41, 41), False)):
            methods = [("f", point, A) for point in points[: amounts[0]]]
            methods += [("g", point, A) for point in points[: amounts[1]]]
            base = Module("base", classes=classes, functions=(("f", 2), ("g", 2)), methods=tuple(methods))
            if is_system:
                self.assert_system([base])
            else:
                self.assert_no_system("many", "", [base])

    def test_methods_of_several_modules(self):
        points = list(itertools.product("abcdefg", repeat=2))
        classes = tuple((letter, ()) for letter in "abcdefg")
        methods = tuple(("f", point, A) for point in points[:39])
        base = Module("base", classes=classes, functions=(("f", 2),), methods=methods)
        more = Module("more", imports=("base",), classes=(("x", ()),), methods=(("f", ("x", "a"), A),))
        last = Module("last", imports=("base",), classes=(("y", ()),), methods=(("f", ("a", "y"), A),))
        self.assert_system([base, more])
        self.assert_system([last, base])
        self.assert_no_system("many", "", [base, more, last])


class NextTest(SystemCase):
    def test_no_method_above(self):
        wrong = Module("wrong", classes=(("a", ()),), functions=(("f", 1),), methods=(("f", ("a",), NEXT),))
        self.assert_at_each_place("next", wrong)

    def test_the_next_stands_in_an_imported_module(self):
        low = Module("low", imports=("left",), classes=(("ball", ("shape",)),), methods=(("show", ("ball",), NEXT),))
        for modules in itertools.permutations([BASE, LEFT, low]):
            self.assert_system(list(modules))
        own = (("show", ("a",), ()), ("show", ("b",), NEXT))
        self.assert_system([BASE, Module("own", imports=("base",), classes=(("a", ()), ("b", ("a",))), methods=own)])

    def test_different_methods_just_above(self):
        other = Module("other", imports=("base",), classes=(("solid", ("thing",)),), methods=(("show", ("solid",), ()),))
        both = ("shape", "solid")
        low = Module("low", imports=("left", "other"), classes=(("ball", both),), methods=(("show", ("ball",), NEXT),))
        for modules in itertools.permutations([BASE, LEFT, other, low]):
            self.assert_no_system("next", "low", list(modules))

    def test_what_another_module_has_does_not_help(self):
        low = Module("low", imports=("base",), classes=(("a", ()),), methods=(("show", ("a",), NEXT),))
        self.assert_no_system("next", "low", [BASE, LEFT, low])
        # The class thing is above shape, but here nothing is defined for it.
        base = Module("base", classes=(("thing", ()),), functions=(("show", 1),))
        left = Module("left", imports=("base",), classes=(("shape", ("thing",)),), methods=(("show", ("shape",), NEXT),))
        helps = Module("helps", imports=("base",), classes=(("helper", ()),), methods=(("show", ("helper",), A),))
        self.assert_no_system("next", "left", [base, left, helps])

    def test_the_modules_are_taken_in_link_order(self):
        def wrong(name, letter):
            return Module(name, imports=("base",), classes=((letter, ()),), methods=(("show", (letter,), NEXT),))

        modules = [wrong("one", "a"), wrong("two", "b"), wrong("apple", "c"), BASE]
        for chosen in itertools.permutations(modules):
            self.assert_no_system("next", "apple", list(chosen))
        late = Module("aaa", imports=("one",), classes=(("d", ()),), methods=(("show", ("d",), NEXT),))
        for chosen in itertools.permutations([late, wrong("one", "a"), BASE]):
            self.assert_no_system("next", "one", list(chosen))


class OrderTest(SystemCase):
    def test_two_different_problems_at_once(self):
        many = tuple(("k" + letter, ()) for letter in "abcdefghijklmnopqrst")
        wrong = [
            ("import", Module("im", imports=("x",))),
            ("cycle", Module("cy", imports=("cz",))),
            ("class", Module("cl", classes=(("a", ("b",)),))),
            ("function", Module("fu", functions=(("f", 1), ("f", 1)))),
            ("method", Module("me", methods=(("g", ("a",), A),))),
            ("many", Module("ma", classes=many)),
            ("next", Module("ne", classes=(("n", ()),), functions=(("h", 1),), methods=(("h", ("n",), NEXT),))),
        ]
        for (problem, first), (_, second) in itertools.combinations(wrong, 2):
            module = "" if problem == "many" else first.name()
            for chosen in itertools.permutations([first, second, BASE]):
                modules = list(chosen)
                if Module("cy", imports=("cz",)) in modules:
                    modules.append(Module("cz", imports=("cy",)))
                self.assert_no_system(problem, module, modules)
                self.assert_no_system("duplicate", "base", [*modules, BASE])
                self.assert_no_system("list", "", [*modules, BASE, None])

    def test_two_problems_of_one_module(self):
        both = Module("both", classes=(("a", ("b",)),), functions=(("f", 1), ("f", 1)), methods=(("g", ("a",), A),))
        self.assert_no_system("class", "both", [BASE, both])
        both = Module("both", imports=("x",), classes=(("a", ("b",)),))
        self.assert_no_system("import", "both", [both])


if __name__ == "__main__":
    unittest.main()
