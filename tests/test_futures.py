"""Plans for threats, point [20], and the conflicts of one more class."""

import itertools
import unittest

import support
from fewestmethods.calls import status
from fewestmethods.conflicts import conflicts
from fewestmethods.errors import InvalidName
from fewestmethods.errors import InvalidSuperclasses
from fewestmethods.errors import NameTaken
from fewestmethods.errors import NotAThreat
from fewestmethods.errors import NotFound
from fewestmethods.errors import TooMany
from fewestmethods.futures import class_plan
from fewestmethods.futures import conflicts_with_class
from fewestmethods.futures import is_class_plan
from fewestmethods.hierarchy import Hierarchy
from fewestmethods.tables import MethodTable
from fewestmethods.threats import threats

KINDS = Hierarchy(support.KINDS)
SMALL = KINDS.without_class("ball")
SAY = (("say", "a"),)
TELL = (("say", "b"),)
CRY = (("say", "c"),)
SHAPE, SOLID, THING = ("shape",), ("solid",), ("thing",)
TABLE = MethodTable(SMALL, 1, {THING: SAY, SHAPE: SAY, SOLID: TELL})
PAIRS = MethodTable(SMALL, 2, {("shape", "shape"): SAY, ("solid", "solid"): TELL})


def flat(size):
    """A hierarchy of this many classes, none below another one."""
    return Hierarchy([(letter, ()) for letter in support.TWENTY[:size]])


class PlanCase(support.Case):
    def assert_plan(self, wanted, table, first, second, value):
        with self.subTest(table=table, first=first, second=second, value=value):
            self.assertIs(is_class_plan(table, first, second, value), wanted)
            self.assertIs(is_class_plan(table, second, first, value), wanted)
            self.assertIs(is_class_plan(value=value, second=second, first=first, table=table), wanted)

    def assert_plan_is_one(self, table, first, second):
        """The plan fits by the definition, in either order of the two methods."""
        for one, two in ((first, second), (second, first)):
            plan = class_plan(table, one, two)
            self.assert_same([type(plan), len(plan), type(plan[0]), type(plan[1])], [tuple, 2, list, tuple])
            classes, point = plan
            hierarchy = table.hierarchy()
            rows = [(name, hierarchy.superclasses(name)) for name in hierarchy.names()]
            methods = {place: table.body(place) for place in table.points()}
            later = table
            for row in classes:
                self.assert_same([type(row), len(row)], [tuple, 2])
                later = later.with_class(*row)
            self.assertEqual(len(point), table.count())
            among = support.Reference(rows + classes, table.count(), methods).rivals(point)
            self.assertLessEqual({one, two}, set(among))
            self.assertEqual(status(later, point), "ambiguous")
            self.assert_plan(True, table, one, two, plan)
            self.assertEqual(class_plan(table, one, two), plan)
        return plan


class ClassPlanTest(PlanCase):
    def test_samples(self):
        numbers = set()
        for rows, count, methods in support.samples(81, 120):
            table = MethodTable(Hierarchy(rows), count, methods)
            for first, second in itertools.product(table.points(), repeat=2):
                with self.subTest(table=table, first=first, second=second):
                    if (first, second) in threats(table):
                        numbers.add(len(self.assert_plan_is_one(table, first, second)[0]))
                    elif (second, first) not in threats(table):
                        self.assert_no_threat(table, first, second)
        self.assertLessEqual({0, 1, 2, 3}, numbers)

    def assert_no_threat(self, table, first, second):
        wanted = {"first": first, "second": second}
        self.assert_error(NotAThreat, wanted, class_plan, table, first, second)
        self.assert_error(NotAThreat, wanted, class_plan, second=second, first=first, table=table)
        self.assert_error(NotAThreat, wanted, is_class_plan, table, first, second, None)
        self.assert_error(NotAThreat, wanted, is_class_plan, value=([], first), second=second, first=first, table=table)

    def test_each_number_of_parameters(self):
        self.assert_plan_is_one(TABLE, SHAPE, SOLID)
        self.assert_plan_is_one(PAIRS, ("shape", "shape"), ("solid", "solid"))
        three = MethodTable(SMALL, 3, {("shape",) * 3: SAY, ("solid",) * 3: TELL})
        self.assert_plan_is_one(three, ("shape",) * 3, ("solid",) * 3)
        mixed = MethodTable(KINDS, 3, {("shape", "thing", "ball"): SAY, ("solid", "ball", "thing"): TELL})
        self.assert_plan_is_one(mixed, ("shape", "thing", "ball"), ("solid", "ball", "thing"))

    def test_names_that_exist_already(self):
        for size in (2, 5, 19):
            table = MethodTable(flat(size), 1, {("a",): SAY, ("b",): TELL})
            self.assert_plan_is_one(table, ("a",), ("b",))
        letters = [(letter, ()) for letter in "zyxwvutsrqponmlkj"]
        table = MethodTable(Hierarchy(letters), 3, {("z", "y", "x"): SAY, ("w", "v", "u"): TELL})
        self.assert_plan_is_one(table, ("z", "y", "x"), ("w", "v", "u"))
        names = ["new", "newa", "newb", "x", "y", "class", "plan", "name", "aa", "ab", "a"]
        table = MethodTable(Hierarchy([(name, ()) for name in names]), 2, {("new", "x"): SAY, ("y", "newa"): TELL})
        self.assert_plan_is_one(table, ("new", "x"), ("y", "newa"))

    def test_room_for_new_classes(self):
        for size, count in itertools.product((17, 18, 19, 20), (1, 2, 3)):
            hierarchy = flat(size)
            first, second = tuple("abc")[:count], tuple("def")[:count]
            table = MethodTable(hierarchy, count, {first: SAY, second: TELL})
            with self.subTest(size=size, count=count):
                if size + count <= 20:
                    self.assert_plan_is_one(table, first, second)
                else:
                    self.assert_error(TooMany, {"limit": 20}, class_plan, table, first, second)
                    self.assert_error(TooMany, {"limit": 20}, class_plan, table, second, first)

    def test_room_is_counted_for_each_index_even_if_fewer_classes_would_do(self):
        table = MethodTable(flat(19), 2, {("a", "a"): SAY, ("b", "b"): TELL})
        first, second = ("a", "a"), ("b", "b")
        self.assert_error(TooMany, {"limit": 20}, class_plan, table, first, second)
        self.assert_plan(True, table, first, second, ([("x", ("a", "b"))], ("x", "x")))
        self.assert_plan_is_one(MethodTable(flat(18), 2, {("a", "a"): SAY, ("b", "b"): TELL}), first, second)

    def test_room_is_counted_only_where_neither_class_is_below_the_other_one(self):
        rows = [(letter, ()) for letter in support.TWENTY[:18]] + [("below", ("a",))]
        table = MethodTable(Hierarchy(rows), 2, {("a", "b"): SAY, ("below", "c"): TELL})
        self.assert_plan_is_one(table, ("a", "b"), ("below", "c"))
        full = Hierarchy(rows + [("last", ())])
        crossed = MethodTable(full, 2, {("a", "below"): SAY, ("below", "a"): TELL})
        self.assert_plan_is_one(crossed, ("a", "below"), ("below", "a"))
        other = MethodTable(full, 2, {("a", "b"): SAY, ("below", "c"): TELL})
        self.assert_error(TooMany, {"limit": 20}, class_plan, other, ("a", "b"), ("below", "c"))

    def test_a_common_subclass_that_exists_does_not_save_room(self):
        rows = [(letter, ()) for letter in support.TWENTY[:19]] + [("below", ("a", "b"))]
        table = MethodTable(Hierarchy(rows), 1, {("a",): SAY, ("b",): TELL})
        self.assert_error(TooMany, {"limit": 20}, class_plan, table, ("a",), ("b",))
        self.assert_plan(True, table, ("a",), ("b",), ([], ("below",)))

    def test_methods_that_are_no_threat(self):
        self.assert_no_threat(TABLE, THING, SOLID)
        self.assert_no_threat(TABLE, SOLID, THING)
        self.assert_no_threat(TABLE, SHAPE, SHAPE)
        self.assert_no_threat(MethodTable(flat(20), 1, {("a",): SAY, ("b",): SAY}), ("a",), ("b",))

    def test_values_that_are_no_methods(self):
        for value in support.NO_POINTS + (("ball",), ("thing", "thing"), ["shape"], ("shape", [])):
            with self.subTest(value=value):
                self.assert_error(NotFound, {"value": value}, class_plan, TABLE, value, SOLID)
                self.assert_error(NotFound, {"value": value}, class_plan, TABLE, SHAPE, value)
                self.assert_error(NotFound, {"value": value}, is_class_plan, TABLE, value, ("x",), None)
                self.assert_error(NotFound, {"value": value}, is_class_plan, TABLE, THING, value, None)

    def test_returned_lists_are_new(self):
        class_plan(TABLE, SHAPE, SOLID)[0].clear()
        self.assert_plan_is_one(TABLE, SHAPE, SOLID)


class IsClassPlanTest(PlanCase):
    def test_plans(self):
        below = ("shape", "solid")
        plans = [
            ([("x", below)], ("x",)),
            ([("x", ("solid", "shape"))], ("x",)),
            ([("x", ("solid", "thing", "shape"))], ("x",)),
            ([("shapes", below), ("more", ())], ("shapes",)),
            ([("x", below), ("y", ("x",))], ("y",)),
            ([("x", ("shape",)), ("y", ("x", "solid")), ("z", ())], ("y",)),
            ([("x", ("shape",)), ("y", ("solid",)), ("z", ("x", "y"))], ("z",)),
        ]
        for plan in plans:
            self.assert_plan(True, TABLE, SHAPE, SOLID, plan)

    def test_points_at_which_they_are_no_rivals(self):
        below = ("shape", "solid")
        for point in (("y",), ("shape",), ("solid",), ("thing",)):
            self.assert_plan(False, TABLE, SHAPE, SOLID, ([("x", below), ("y", ("shape",))], point))
        self.assert_plan(False, TABLE, SHAPE, SOLID, ([("x", ("shape",))], ("x",)))
        self.assert_plan(False, TABLE, SHAPE, SOLID, ([("x", ("thing",))], ("x",)))
        self.assert_plan(False, TABLE, SHAPE, SOLID, ([], ("shape",)))

    def test_a_lower_method_hides_them(self):
        table = MethodTable(KINDS, 1, {SHAPE: SAY, SOLID: TELL, ("ball",): CRY})
        self.assert_plan(False, table, SHAPE, SOLID, ([], ("ball",)))
        self.assert_plan(False, table, SHAPE, SOLID, ([("x", ("ball", "shape", "solid"))], ("x",)))
        self.assert_plan(True, table, SHAPE, SOLID, ([("x", ("shape", "solid"))], ("x",)))

    def test_other_rivals_do_not_matter(self):
        hierarchy = Hierarchy.of(a=(), b=(), c=())
        table = MethodTable(hierarchy, 1, {("a",): SAY, ("b",): TELL, ("c",): CRY})
        self.assert_plan(True, table, ("a",), ("b",), ([("x", ("a", "c", "b"))], ("x",)))

    def test_no_new_classes(self):
        split = MethodTable(KINDS, 1, {SHAPE: SAY, SOLID: TELL})
        self.assert_plan(True, split, SHAPE, SOLID, ([], ("ball",)))
        self.assert_plan(False, split, SHAPE, SOLID, ((), ("ball",)))
        self.assert_plan(True, split, SHAPE, SOLID, ([("x", ())], ("ball",)))

    def test_classes_that_cannot_be_added(self):
        below = ("shape", "solid")
        rows = [
            ("solid", below), ("thing", ()), ("X", below), ("", below), ("abcdefghi", below), (None, below), (7, below),
            (["x"], below), ("x", ["shape", "solid"]), ("x", ("shape", "solid", "shape")), ("x", ("shape", "nothing")),
            ("x", ("x",)), ("x", ("shape", "solid", "later")), ("x", "shape"), ("x", None), ("x", ("shape", ["solid"])),
            ["x", below], ("x",), ("x", below, ()), None, "x", 7, {}, (), ("x", ("shape", {})), ("good", ()),
        ]
        for row in rows:
            for classes in ([("good", below), row, ("later", ())], [row, ("good", below)]):
                self.assert_plan(False, TABLE, SHAPE, SOLID, (classes, ("good",)))

    def test_limit_of_twenty_classes(self):
        for size, number in ((18, 2), (18, 3), (19, 1), (19, 2), (20, 0), (20, 1)):
            rows = [(letter, ()) for letter in support.TWENTY[:size - 1]] + [("both", ("a", "b"))]
            table = MethodTable(Hierarchy(rows), 1, {("a",): SAY, ("b",): TELL})
            classes = [(letter, ()) for letter in "xyz"[:number]]
            self.assert_plan(size + number <= 20, table, ("a",), ("b",), (classes, ("both",)))

    def test_points_of_another_kind_or_length(self):
        classes = [("x", ("shape", "solid"))]
        for point in support.NO_POINTS:
            # The class x exists after the plan.
            if point != ("x",):
                self.assert_plan(False, TABLE, SHAPE, SOLID, (classes, point))
        for point in (["x"], "x", (), ("x", "x"), ("x", "x", "x"), ("y",), (("x",),), (["x"],), ("x", []), None):
            self.assert_plan(False, TABLE, SHAPE, SOLID, (classes, point))
        first, second = ("shape", "shape"), ("solid", "solid")
        self.assert_plan(True, PAIRS, first, second, (classes, ("x", "x")))
        for point in (("x",), ("x", "x", "x"), ("x", "shape"), ("solid", "x"), ["x", "x"], ("x", "ball")):
            self.assert_plan(False, PAIRS, first, second, (classes, point))

    def test_lists_for_tuples_and_tuples_for_lists(self):
        below = ("shape", "solid")
        wrong = [
            [[("x", below)], ("x",)], ((("x", below),), ("x",)), ([["x", below]], ("x",)), ([("x", list(below))], ("x",)),
            ([("x", below)], ["x"]), ([("x", below)],), ([("x", below)], ("x",), ()), (("x", below), ("x",)),
            ({"x": below}, ("x",)), (("x",), [("x", below)]), (), [], (None, None), ([], []), ((), ()),
        ]
        for value in wrong:
            self.assert_plan(False, TABLE, SHAPE, SOLID, value)

    def test_values_of_every_other_kind(self):
        for value in support.NO_POINTS + support.TUPLES:
            self.assert_plan(False, TABLE, SHAPE, SOLID, value)
            self.assert_plan(False, TABLE, SHAPE, SOLID, (value, ("shape",)))
            self.assert_plan(False, TABLE, SHAPE, SOLID, ([value], ("shape",)))

    def test_nothing_changes(self):
        value = ([("x", ("shape", "solid"))], ("x",))
        before = repr(TABLE)
        is_class_plan(TABLE, SHAPE, SOLID, value)
        self.assertEqual(value, ([("x", ("shape", "solid"))], ("x",)))
        self.assertEqual(repr(TABLE), before)
        self.assertEqual(TABLE.hierarchy(), SMALL)


class ConflictsWithClassTest(support.Case):
    def test_one_more_class(self):
        below = ("shape", "solid")
        self.assert_same(conflicts_with_class(TABLE, "ball", below), [("ball",)])
        self.assert_same(conflicts_with_class(TABLE, "cube", ("solid",)), [])
        self.assert_same(conflicts_with_class(TABLE, "cube"), [])
        self.assert_same(conflicts_with_class(superclasses=below, name="ball", table=TABLE), [("ball",)])
        self.assert_same(conflicts_with_class(PAIRS, "ball", below), [("ball", "ball")])
        self.assertEqual(TABLE.hierarchy(), SMALL)

    def test_conflicts_that_there_are_already(self):
        split = MethodTable(KINDS, 1, {SHAPE: SAY, SOLID: TELL})
        self.assertEqual(conflicts_with_class(split, "cube"), [("ball",)])
        self.assertEqual(conflicts_with_class(split, "cube", ("ball",)), [("ball",)])
        self.assertEqual(conflicts_with_class(split, "cube", ("solid", "shape")), [("ball",), ("cube",)])

    def test_samples(self):
        for rows, count, methods in support.samples(82, 60):
            table = MethodTable(Hierarchy(rows), count, methods)
            superclasses = tuple(name for name, _ in rows[:3])
            later = support.Reference(rows + [("new", superclasses)], count, methods)
            self.assert_same(conflicts_with_class(table, "new", superclasses), later.conflicts())
            self.assertEqual(conflicts_with_class(table, "new", superclasses), conflicts(table.with_class("new", superclasses)))

    def test_errors(self):
        full = MethodTable(flat(20), 1)
        for value in support.NO_CLASSES:
            if value != "unknown":
                with self.subTest(value=value):
                    self.assert_error(InvalidName, {"value": value}, conflicts_with_class, TABLE, value)
                    self.assert_error(InvalidName, {"value": value}, conflicts_with_class, full, value, None)
        for value in (None, 0, "solid", [], ["solid"], {}, ("ball",), ("solid", "solid"), (0,), ([],)):
            with self.subTest(value=value):
                self.assert_error(InvalidSuperclasses, {"value": value}, conflicts_with_class, TABLE, "ball", value)
                self.assert_error(InvalidSuperclasses, {"value": value}, conflicts_with_class, full, "x", value)
        self.assert_error(NameTaken, {"value": "solid"}, conflicts_with_class, TABLE, "solid")
        self.assert_error(NameTaken, {"value": "solid"}, conflicts_with_class, TABLE, "solid", [])
        self.assert_error(TooMany, {"limit": 20}, conflicts_with_class, full, "x")
        self.assert_error(TooMany, {"limit": 20}, conflicts_with_class, full, "x", ("a",))
        self.assertEqual(conflicts_with_class(MethodTable(flat(19), 1), "x", ("a", "b")), [])


if __name__ == "__main__":
    unittest.main()
