"""Hierarchies made: the constructor and Hierarchy.of, point [5]."""

import unittest

import support
from fewestmethods.errors import InvalidHierarchy
from fewestmethods.hierarchy import Hierarchy

GOOD = [("a", ()), ("b", ("a",)), ("c", ()), ("d", ("b", "c")), ("e", ("a", "d"))]

NOT_A_CLASS = [
    None,
    True,
    7,
    "xy",
    b"xy",
    [],
    ["x", ()],
    (),
    ("x",),
    ("x", (), ()),
    {},
    {"x": ()},
    {"x", "y"},
    Hierarchy(),
]
NOT_A_NAME = ["", "X", "abcdefghi", "x\n", "x y", "x1", " x", None, True, 0, 1, b"x", [], ["x"], (), ("x",), {}, Hierarchy()]


def twenty():
    return [(letter, ()) for letter in support.TWENTY]


class MadeTest(support.Case):
    def assert_problem(self, problem, position, classes):
        with self.subTest(classes=classes):
            wanted = {"problem": problem, "position": position}
            self.assert_error(InvalidHierarchy, wanted, Hierarchy, classes)
            if isinstance(classes, list):
                self.assert_error(InvalidHierarchy, wanted, Hierarchy, tuple(classes))
                self.assert_error(InvalidHierarchy, wanted, Hierarchy, classes=classes)

    def places(self, row):
        """The good rows with a wrong one at the first, a middle and the last index."""
        return [(at, GOOD[:at] + [row] + GOOD[at + 1:]) for at in (0, 2, len(GOOD) - 1)]

    def test_from_a_list_a_tuple_and_by_name(self):
        made = [Hierarchy(GOOD), Hierarchy(tuple(GOOD)), Hierarchy(classes=GOOD), Hierarchy(classes=tuple(GOOD))]
        for one in made:
            self.assertEqual(one.names(), ["a", "b", "c", "d", "e"])
            self.assertEqual([one.superclasses(name) for name in one.names()], [row[1] for row in GOOD])
            self.assertEqual(one, made[0])

    def test_without_classes(self):
        for one in (Hierarchy(), Hierarchy([]), Hierarchy(()), Hierarchy(classes=()), Hierarchy.of()):
            self.assertEqual(one.names(), [])
            self.assertEqual(len(one), 0)
            self.assertEqual(one, Hierarchy())

    def test_of_keeps_the_order_of_the_keywords(self):
        first = Hierarchy.of(a=(), b=(), c=("b", "a"))
        second = Hierarchy.of(b=(), a=(), c=("b", "a"))
        self.assertEqual(first, Hierarchy([("a", ()), ("b", ()), ("c", ("b", "a"))]))
        self.assertEqual(second, Hierarchy([("b", ()), ("a", ()), ("c", ("b", "a"))]))
        self.assertNotEqual(first, second)
        self.assertIsInstance(first, Hierarchy)

    def test_of_takes_words_of_the_program_as_keywords(self):
        words = ["self", "classes", "name", "text", "superclasses", "of"]
        rows = [(word, ()) for word in words if len(word) <= 8]
        self.assertEqual(Hierarchy.of(**dict(rows)), Hierarchy(rows))

    def test_of_raises_as_the_constructor(self):
        def made(rows):
            return Hierarchy.of(**dict(rows))

        cases = [
            ("name", 0, [("A", ())]),
            ("name", 1, [("a", ()), ("abcdefghi", ())]),
            ("name", 1, [("a", ()), ("", ())]),
            ("superclasses", 0, [("b", ("a",)), ("a", ())]),
            ("superclasses", 1, [("a", ()), ("b", ["a"])]),
            ("superclasses", 1, [("a", ()), ("b", "a")]),
            ("superclasses", 1, [("a", ()), ("b", ("a", "a"))]),
            ("count", 20, twenty() + [("x", ("a",))]),
            ("name", 20, twenty() + [("X", ("a",))]),
        ]
        for problem, position, rows in cases:
            with self.subTest(rows=rows):
                self.assert_error(InvalidHierarchy, {"problem": problem, "position": position}, made, rows)
        self.assertEqual(made(twenty()), Hierarchy(twenty()))

    def test_not_a_list_or_tuple(self):
        for value in support.STRANGE + support.NUMBERS + support.STRINGS:
            self.assert_problem("list", 0, value)

    def test_not_a_tuple_of_two(self):
        for row in NOT_A_CLASS:
            for at, rows in self.places(row):
                self.assert_problem("class", at, rows)

    def test_not_a_name(self):
        for name in NOT_A_NAME:
            for at, rows in self.places((name, ())):
                self.assert_problem("name", at, rows)

    def test_duplicates(self):
        self.assert_problem("duplicate", 1, [("a", ()), ("a", ())])
        for at in (1, 2, 4):
            for earlier in range(at):
                self.assert_problem("duplicate", at, GOOD[:at] + [(GOOD[earlier][0], ())] + GOOD[at + 1:])

    def test_not_superclasses_at_the_first_index(self):
        for value in self.no_superclasses() + [("a",), ("b",)]:
            self.assert_problem("superclasses", 0, [("a", value)] + GOOD[1:])

    def test_not_superclasses_at_a_middle_index(self):
        wrong = self.no_superclasses() + [("c",), ("d",), ("a", "a"), ("a", "b", "a"), ["a"], ["a", "b"], ("a", "d")]
        for value in wrong:
            self.assert_problem("superclasses", 2, GOOD[:2] + [("c", value)] + GOOD[3:])

    def test_not_superclasses_at_the_last_index(self):
        wrong = self.no_superclasses() + [("e",), ("a", "e"), ("d", "d"), ["a"], ("a", None), (("a",),), ("a", ["b"])]
        for value in wrong:
            self.assert_problem("superclasses", 4, GOOD[:4] + [("e", value)])

    def no_superclasses(self):
        return [None, True, 0, 1, "", "a", b"a", [], {}, {"a": 1}, {"a"}, ("x",), ("A",), ("",), (0,), (None,), ([],),
                ({},), (("a",),), Hierarchy()]

    def test_the_first_invalid_element_decides(self):
        self.assert_problem("superclasses", 1, [("a", ()), ("b", ("x",)), ("A", ()), 7])
        self.assert_problem("class", 1, [("a", ()), 7, ("A", ()), ("b", ("x",))])
        self.assert_problem("name", 0, [("A", ()), 7])
        self.assert_problem("duplicate", 2, [("a", ()), ("b", ()), ("a", ()), ("c", ("x",))])
        self.assert_problem("superclasses", 0, [("b", ("a",)), ("a", ()), ("a", ())])

    def test_order_within_an_element(self):
        self.assert_problem("class", 0, [("A", ["x"], 3)])
        self.assert_problem("name", 0, [("A", ["x"])])
        self.assert_problem("name", 1, [("a", ()), (("a",), None)])
        self.assert_problem("duplicate", 1, [("a", ()), ("a", ["x"])])
        self.assert_problem("duplicate", 1, [("a", ()), ("a", ("a",))])

    def test_twenty_and_twenty_one_classes(self):
        self.assertEqual(Hierarchy(twenty()).names(), list(support.TWENTY))
        self.assert_problem("count", 20, twenty() + [("x", ())])
        self.assert_problem("count", 20, twenty() + [("x", ()), ("y", ("x",)), ("z", ())])

    def test_elements_are_checked_before_the_count(self):
        self.assert_problem("class", 20, twenty() + [7])
        self.assert_problem("name", 21, twenty() + [("x", ()), ("Y", ())])
        self.assert_problem("duplicate", 22, twenty() + [("x", ()), ("y", ()), ("x", ())])
        self.assert_problem("superclasses", 20, twenty() + [("x", ("y",))])
        self.assert_problem("class", 0, [7] + twenty())

    def test_a_chain_of_twenty_and_a_class_below_all_others(self):
        chain = [(letter, tuple(support.TWENTY[max(0, at - 1):at])) for at, letter in enumerate(support.TWENTY)]
        self.assertTrue(Hierarchy(chain).is_at_or_below("t", "a"))
        below = twenty()[:19] + [("t", tuple(support.TWENTY[:19]))]
        self.assertEqual(Hierarchy(below).ancestors("t"), list(support.TWENTY))

    def test_later_changes_to_the_passed_list_have_no_effect(self):
        rows = list(GOOD)
        made = Hierarchy(rows)
        rows.append(("x", ()))
        rows[0] = ("y", ())
        del rows[1]
        self.assertEqual(made, Hierarchy(GOOD))
        self.assertEqual(made.names(), ["a", "b", "c", "d", "e"])
        self.assertEqual(str(made), str(Hierarchy(GOOD)))

    def test_later_changes_to_passed_keywords_have_no_effect(self):
        rows = dict(GOOD)
        made = Hierarchy.of(**rows)
        rows["x"] = ()
        rows["a"] = 7
        self.assertEqual(made, Hierarchy(GOOD))

    def test_the_passed_list_stays_as_it_was(self):
        rows = list(GOOD)
        Hierarchy(rows)
        self.assertEqual(rows, GOOD)


if __name__ == "__main__":
    unittest.main()
