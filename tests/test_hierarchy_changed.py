"""Hierarchies changed: with_class and without_class."""

import unittest

import support
from fewestmethods.errors import InUse
from fewestmethods.errors import InvalidName
from fewestmethods.errors import InvalidSuperclasses
from fewestmethods.errors import NameTaken
from fewestmethods.errors import NotFound
from fewestmethods.errors import TooMany
from fewestmethods.hierarchy import Hierarchy

NO_SUPERCLASSES = [None, True, 0, "", "solid", b"solid", [], ["solid"], {}, {"solid": 1}, {"solid"}, ("x",), ("",),
                   (0,), (None,), ([],), ({},), (("solid",),), ("solid", "solid"), ("solid", "thing", "solid"),
                   ("solid", "x"), ("cube",), Hierarchy()]


class ChangedTest(support.Case):
    def setUp(self):
        self.kinds = Hierarchy(support.KINDS)
        self.full = Hierarchy([(letter, ()) for letter in support.TWENTY])

    def tearDown(self):
        self.assertEqual(self.kinds, Hierarchy(support.KINDS))
        self.assertEqual(self.full.names(), list(support.TWENTY))

    def test_with_class(self):
        cases = [
            (self.kinds.with_class("cube"), ("cube", ())),
            (self.kinds.with_class("cube", ()), ("cube", ())),
            (self.kinds.with_class("cube", ("solid",)), ("cube", ("solid",))),
            (self.kinds.with_class("cube", ("ball", "thing")), ("cube", ("ball", "thing"))),
            (self.kinds.with_class(superclasses=("shape", "solid"), name="cube"), ("cube", ("shape", "solid"))),
        ]
        for made, row in cases:
            with self.subTest(row=row):
                self.assertIsInstance(made, Hierarchy)
                self.assertEqual(made, Hierarchy(support.KINDS + [row]))

    def test_no_earlier_hierarchy_changes(self):
        made = [Hierarchy()]
        for at, letter in enumerate(support.TWENTY):
            made.append(made[-1].with_class(letter, tuple(support.TWENTY[max(0, at - 2):at])))
        for at, one in enumerate(made):
            self.assertEqual(one.names(), list(support.TWENTY[:at]))
            if at > 0:
                self.assertEqual(one.descendants("a"), list(support.TWENTY[:at]))
        self.assertEqual(made[3].highest_common("a"), ["a"])
        self.assertEqual(made[20].without_class("t"), made[19])
        self.assertEqual(len(made[20]), 20)

    def test_two_hierarchies_from_one_are_independent(self):
        left = self.kinds.with_class("cube", ("solid",))
        right = self.kinds.with_class("cone", ("solid", "shape"))
        self.assertEqual(left.descendants("solid"), ["solid", "ball", "cube"])
        self.assertEqual(right.descendants("solid"), ["solid", "ball", "cone"])
        self.assertEqual(right.highest_common("shape", "solid"), ["ball", "cone"])

    def test_with_class_and_no_name(self):
        for value in support.NO_CLASSES:
            if value == "unknown":
                continue
            with self.subTest(value=value):
                self.assert_error(InvalidName, {"value": value}, self.kinds.with_class, value)
                self.assert_error(InvalidName, {"value": value}, self.kinds.with_class, value, ("x",))
                self.assert_error(InvalidName, {"value": value}, self.full.with_class, value, None)

    def test_with_class_and_a_name_that_is_taken(self):
        for name in self.kinds.names():
            self.assert_error(NameTaken, {"value": name}, self.kinds.with_class, name)
            self.assert_error(NameTaken, {"value": name}, self.kinds.with_class, name, ["x"])
        self.assert_error(NameTaken, {"value": "a"}, self.full.with_class, "a", ("x",))

    def test_with_class_and_no_superclasses(self):
        for value in NO_SUPERCLASSES:
            with self.subTest(value=value):
                self.assert_error(InvalidSuperclasses, {"value": value}, self.kinds.with_class, "cube", value)
                self.assert_error(InvalidSuperclasses, {"value": value}, self.full.with_class, "cube", value)

    def test_with_class_and_twenty_classes(self):
        self.assert_error(TooMany, {"limit": 20}, self.full.with_class, "x")
        self.assert_error(TooMany, {"limit": 20}, self.full.with_class, "x", ("a", "t"))
        nineteen = self.full.without_class("t")
        self.assertEqual(len(nineteen.with_class("x", ("a",))), 20)

    def test_without_class(self):
        self.assertEqual(self.kinds.without_class("ball"), Hierarchy(support.KINDS[:3]))
        self.assertEqual(self.kinds.without_class(name="ball").without_class("shape").names(), ["thing", "solid"])
        self.assertEqual(self.full.without_class("a").names(), list(support.TWENTY[1:]))
        self.assertEqual(self.full.without_class("k").position_of("t"), 18)
        self.assertEqual(Hierarchy.of(a=()).without_class("a"), Hierarchy())
        self.assertIsInstance(self.kinds.without_class("ball"), Hierarchy)

    def test_without_class_and_no_class(self):
        for value in support.NO_CLASSES:
            with self.subTest(value=value):
                self.assert_error(NotFound, {"value": value}, self.kinds.without_class, value)
        self.assert_error(NotFound, {"value": "thing"}, Hierarchy().without_class, "thing")

    def test_without_class_that_is_in_use(self):
        wide = Hierarchy(support.WIDE)
        users = {"a": "c", "b": "c", "c": "m", "d": "m", "e": "n", "m": "n"}
        for name, user in users.items():
            with self.subTest(name=name):
                self.assert_error(InUse, {"value": user}, wide.without_class, name)
        self.assertEqual(wide.without_class("n").names(), ["a", "b", "c", "d", "e", "m", "o"])
        self.assertEqual(wide.without_class("o").names(), ["a", "b", "c", "d", "e", "m", "n"])
        self.assert_error(InUse, {"value": "o"}, wide.without_class("n").without_class, "e")

    def test_a_name_can_be_used_again(self):
        again = self.kinds.without_class("ball").with_class("ball", ("solid",))
        self.assertEqual(again.superclasses("ball"), ("solid",))
        self.assertNotEqual(again, self.kinds)


if __name__ == "__main__":
    unittest.main()
