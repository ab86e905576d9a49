"""Deciding conflicts, point [18], and what CONFLICTS NEEDED of point [4] says of it."""

import itertools
import unittest

import support
from fewestmethods.calls import answers
from fewestmethods.calls import call
from fewestmethods.conflicts import conflicts
from fewestmethods.conflicts import decide
from fewestmethods.conflicts import is_settled
from fewestmethods.conflicts import settle
from fewestmethods.errors import InvalidBody
from fewestmethods.errors import InvalidPoint
from fewestmethods.errors import NotAConflict
from fewestmethods.errors import TooMany
from fewestmethods.hierarchy import Hierarchy
from fewestmethods.tables import MethodTable

KINDS = Hierarchy(support.KINDS)
WIDE = Hierarchy(support.WIDE)
NEXT = (("next",),)
ONE, TWO, THREE, FOUR = [(("say", word),) for word in ("one", "two", "three", "four")]

# Below the conflict at c there are m, which d answers, and n below m.
ROOTS = Hierarchy.of(
    a=(), b=(), c=("a", "b"), d=("a", "b"), m=("c", "d"), x=("c",), y=("d",), n=("m", "x", "y"), o=("c", "d"), p=("o",),
)
BASE = {("a",): ONE, ("b",): TWO, ("d",): THREE}
BAD_BODIES = support.STRANGE + support.LISTS + support.NUMBERS + (
    "say a", ("say", "a"), ("next",), [("say", "a")], (["say", "a"],), (("say", "A"),), (("next",), ("next",)),
    NEXT, ONE + NEXT, NEXT + ONE, ONE + NEXT + TWO, (("call", "f", (3,)),), (("call", "f", (True,)),),
)


def table_of(methods, hierarchy=ROOTS):
    return MethodTable(hierarchy, 1, methods)


def next_by_definition(reference, point):
    return reference.expansion(reference.just_above(point)[0]) if reference.has_next(point) else None


def step_by_definition(before, methods):
    """The first step of point [18] that is possible: a tuple (point, its body), or None."""
    now = support.Reference(before.rows, len(before.every[0]), methods)
    for point in now.listed:
        if ("next",) in methods[point] and next_by_definition(now, point) != next_by_definition(before, point):
            return point, before.expansion(point)
    for point in before.every:
        word, steps = before.outcome(point)
        if word == "answered" and now.outcome(point) != (word, steps):
            return point, steps
    return None


def decide_by_definition(before, point, body):
    """The methods, the keepers and what was written out, one step after another."""
    methods = {**before.methods, point: body}
    while step := step_by_definition(before, methods):
        methods[step[0]] = step[1]
    keepers = [place for place in before.every if place in methods and place not in before.methods and place != point]
    written = [place for place in before.listed if methods[place] != before.methods[place]]
    return methods, keepers, written


class DecidingCase(support.Case):
    def assert_decided(self, table, point, body, keepers, written):
        """The decision, with the given table and all calls that were answered as before."""
        before = repr(table)
        answered = {place: call(table, place) for place, word in answers(table) if word == "answered"}
        for found in (decide(table, point, body), decide(body=body, point=point, table=table)):
            self.assert_same([type(found), len(found)], [tuple, 3])
            later = found[0]
            self.assertIsInstance(later, MethodTable)
            self.assert_same([found[1], found[2]], [keepers, written])
            self.assert_same(later.body(point), body)
            for place, steps in answered.items():
                self.assertEqual(call(later, place), steps)
            new = set(later.points()) - set(table.points())
            self.assertEqual(new, {point, *keepers})
        self.assertEqual(repr(table), before)
        return later


class DecideTest(DecidingCase):
    def test_samples(self):
        kinds = set()
        for rows, count, methods in support.samples(64, 700) + support.samples(74, 700):
            before = support.Reference(rows, count, methods)
            table = MethodTable(Hierarchy(rows), count, methods)
            for at, point in enumerate(before.conflicts()):
                body = support.PLAIN_BODIES[at % 3]
                wanted, keepers, written = decide_by_definition(before, point, body)
                with self.subTest(table=table, point=point):
                    later = self.assert_decided(table, point, body, keepers, written)
                    self.assertEqual(later, MethodTable(Hierarchy(rows), count, wanted))
                kinds.add((keepers != [], written != []))
        self.assertEqual(len(kinds), 4)

    def test_neither(self):
        later = self.assert_decided(table_of({("a",): ONE, ("b",): TWO}), ("c",), THREE, [], [])
        self.assertEqual(later.points(), [("a",), ("b",), ("c",)])
        self.assertEqual(conflicts(later), [("d",)])
        self.assert_decided(MethodTable(KINDS, 1, {("shape",): ONE, ("solid",): TWO}), ("ball",), (), [], [])

    def test_the_body_may_be_that_of_a_rival(self):
        later = self.assert_decided(MethodTable(KINDS, 1, {("shape",): ONE, ("solid",): TWO}), ("ball",), TWO, [], [])
        self.assertEqual(call(later, ("ball",)), TWO)

    def test_one_keeper(self):
        hierarchy = ROOTS.without_class("p").without_class("o")
        later = self.assert_decided(table_of(BASE, hierarchy), ("c",), (), [("m",)], [])
        self.assertEqual(later.body(("m",)), THREE)
        self.assertEqual(call(later, ("n",)), THREE)
        # The decision says what was said below, so nothing changes there.
        self.assert_decided(table_of(BASE, hierarchy), ("c",), THREE, [], [])

    def test_several_keepers(self):
        later = self.assert_decided(table_of(BASE), ("c",), (), [("m",), ("o",)], [])
        self.assertEqual([later.body(("m",)), later.body(("o",))], [THREE, THREE])

    def test_the_body_of_a_keeper_is_the_expansion(self):
        methods = {**BASE, ("d",): THREE, ("y",): NEXT + FOUR}
        hierarchy = Hierarchy.of(a=(), b=(), c=("a", "b"), d=("a", "b"), y=("d",), z=("c", "y"))
        later = self.assert_decided(table_of(methods, hierarchy), ("c",), (), [("z",)], [])
        self.assertEqual(later.body(("z",)), THREE + FOUR)
        self.assertEqual(later.body(("y",)), NEXT + FOUR)

    def test_one_method_written_out(self):
        hierarchy = ROOTS.without_class("p").without_class("o")
        methods = {**BASE, ("m",): NEXT + FOUR}
        later = self.assert_decided(table_of(methods, hierarchy), ("c",), (), [], [("m",)])
        self.assertEqual(later.body(("m",)), THREE + FOUR)
        self.assert_decided(table_of(methods, hierarchy), ("c",), THREE, [], [])

    def test_several_methods_written_out(self):
        methods = {**BASE, ("m",): FOUR + NEXT, ("n",): NEXT + ONE, ("o",): NEXT}
        later = self.assert_decided(table_of(methods), ("c",), (), [], [("m",), ("o",)])
        self.assertEqual([later.body(("m",)), later.body(("o",))], [FOUR + THREE, THREE])
        self.assertEqual(later.body(("n",)), NEXT + ONE)
        self.assertEqual(call(later, ("n",)), FOUR + THREE + ONE)

    def test_methods_that_keep_their_next(self):
        crossed = {("thing", "shape"): ONE, ("shape", "thing"): TWO, ("thing", "solid"): THREE, ("solid", "thing"): THREE}
        table = MethodTable(KINDS, 2, {**crossed, ("solid", "solid"): NEXT + FOUR, ("ball", "ball"): ()})
        self.assert_decided(table, ("shape", "shape"), FOUR, [], [])
        chain = Hierarchy.of(a=(), b=(), c=("a", "b"), d=("c",), e=("d", "c"))
        table = table_of({("a",): ONE, ("b",): TWO, ("d",): THREE, ("e",): NEXT + ONE}, chain)
        self.assert_decided(table, ("c",), FOUR, [], [])

    def test_writing_out_comes_before_keepers(self):
        """With a keeper at m first, n would have its next again."""
        methods = {**BASE, ("n",): NEXT + FOUR}
        later = self.assert_decided(table_of(methods), ("c",), (), [("m",), ("o",)], [("n",)])
        self.assertEqual(later.body(("n",)), THREE + FOUR)

    def test_writing_out_after_a_keeper(self):
        """The decision leaves the next of n, but the keeper at m takes it away."""
        methods = {**BASE, ("x",): FOUR, ("y",): FOUR, ("n",): NEXT}
        later = self.assert_decided(table_of(methods), ("c",), (), [("m",), ("o",)], [("n",)])
        self.assertEqual(later.body(("n",)), FOUR)
        self.assertEqual(later.body(("m",)), THREE)

    def test_several_of_both(self):
        methods = {**BASE, ("n",): NEXT + FOUR, ("p",): ONE + NEXT + TWO}
        later = self.assert_decided(table_of(methods), ("c",), (), [("m",), ("o",)], [("n",), ("p",)])
        self.assertEqual([later.body(("n",)), later.body(("p",))], [THREE + FOUR, ONE + THREE + TWO])
        self.assertEqual(later, decide(table_of(methods), ("c",), ())[0])

    def test_two_parameters(self):
        methods = {(one, "thing"): body for (one,), body in BASE.items()}
        hierarchy = ROOTS.without_class("p").without_class("o").with_class("thing").with_class("ball", ("thing",))
        table = MethodTable(hierarchy, 2, {**methods, ("m", "ball"): NEXT})
        later = self.assert_decided(table, ("c", "thing"), (), [("m", "thing")], [("m", "ball")])
        self.assertEqual(later.body(("m", "ball")), THREE)

    def test_three_parameters(self):
        table = MethodTable(KINDS, 3, {("thing", "thing", "ball"): ONE, ("thing", "ball", "thing"): TWO})
        self.assert_decided(table, ("thing", "ball", "ball"), (("call", "f", (2, 1, 0)),), [], [])

    def test_conflicts_that_come_up_below(self):
        table = MethodTable(WIDE, 1, {("a",): ONE, ("b",): TWO, ("e",): THREE})
        self.assertEqual(conflicts(table), [("c",), ("d",)])
        later = self.assert_decided(table, ("c",), FOUR, [], [])
        self.assertEqual(conflicts(later), [("d",)])
        last = self.assert_decided(later, ("d",), (), [("m",)], [])
        self.assertEqual(conflicts(last), [("n",), ("o",)])


class DecideErrorsTest(DecidingCase):
    def setUp(self):
        self.table = table_of(BASE)

    def test_values_that_are_no_points_of_the_table(self):
        for value in support.NO_POINTS + (("c", "c"), ("c", "c", "c"), ["c"], ("thing",), ("c", [])):
            if value not in (("x",),):
                self.assert_raises(InvalidPoint, value, decide, self.table, value, ())
                self.assert_raises(InvalidPoint, value, decide, self.table, value, None)
        two = MethodTable(KINDS, 2)
        self.assert_raises(InvalidPoint, ("ball",), decide, two, ("ball",), ())

    def test_points_that_are_no_conflicts(self):
        for name in ROOTS.names():
            if (name,) not in conflicts(self.table):
                self.assert_raises(NotAConflict, (name,), decide, self.table, (name,), ())
                self.assert_raises(NotAConflict, (name,), decide, self.table, (name,), NEXT)
        self.assert_raises(NotAConflict, ("ball",), decide, MethodTable(KINDS, 1), ("ball",), ())

    def test_an_ambiguous_point_below_a_conflict_is_none(self):
        table = MethodTable(WIDE, 1, {("a",): ONE, ("b",): TWO})
        for name in ("m", "n", "o"):
            self.assert_raises(NotAConflict, (name,), decide, table, (name,), ())

    def test_values_that_are_no_bodies(self):
        for value in BAD_BODIES:
            self.assert_raises(InvalidBody, value, decide, self.table, ("c",), value)
        self.assert_raises(InvalidBody, (("call", "f", (1,)),), decide, self.table, ("c",), (("call", "f", (1,)),))

    def test_too_many(self):
        for number, is_allowed in ((37, True), (38, False), (39, False), (40, False)):
            table = self.filled(number)
            if is_allowed:
                later, keepers, _ = decide(table, ("c", "a"), ())
                self.assertEqual([len(later), keepers], [40, [("m", "a"), ("o", "a")]])
            else:
                self.assert_raises(TooMany, 40, decide, table, ("c", "a"), ())
            self.assertEqual(len(table), number)
        self.assertEqual(len(decide(self.filled(39), ("c", "a"), THREE)[0]), 40)
        self.assert_raises(TooMany, 40, decide, self.filled(40), ("c", "a"), THREE)

    def filled(self, number):
        """This many methods, of which those of one column have a conflict."""
        rows = [(name, ROOTS.superclasses(name)) for name in ROOTS.names()]
        hierarchy = Hierarchy(rows + [(name, ()) for name in "qrst"])
        methods = {(one, "a"): body for (one,), body in BASE.items()}
        free = itertools.product(hierarchy.names(), "qrst")
        for point in itertools.islice(free, number - len(methods)):
            methods[point] = ()
        return MethodTable(hierarchy, 2, methods)

    def test_two_errors_at_once(self):
        self.assert_raises(InvalidPoint, ["c"], decide, self.table, ["c"], NEXT)
        self.assert_raises(NotAConflict, ("a",), decide, self.table, ("a",), None)
        full = self.filled(40)
        self.assert_raises(InvalidBody, NEXT, decide, full, ("c", "a"), NEXT)
        self.assert_raises(NotAConflict, ("d", "a"), decide, full, ("d", "a"), [])
        self.assert_raises(InvalidPoint, ("c",), decide, full, ("c",), ())

    def test_returned_lists_are_new(self):
        first = decide(self.table, ("c",), ())
        first[1].clear()
        first[2].append(("x",))
        self.assertEqual(decide(self.table, ("c",), ())[1:], ([("m",), ("o",)], []))


class SettleTest(DecidingCase):
    def settle_by_definition(self, reference, body):
        decided = []
        while found := reference.conflicts():
            methods = decide_by_definition(reference, found[0], body)[0]
            reference = support.Reference(reference.rows, len(found[0]), methods)
            decided.append(found[0])
        return reference.methods, decided

    def test_samples(self):
        longest = 0
        for rows, count, methods in support.samples(62, 250):
            table = MethodTable(Hierarchy(rows), count, methods)
            for body in ((), ONE):
                wanted, points = self.settle_by_definition(support.Reference(rows, count, methods), body)
                with self.subTest(table=table):
                    later, decided = settle(table, body)
                    self.assertEqual(later, MethodTable(Hierarchy(rows), count, wanted))
                    self.assert_same(decided, points)
                    self.assertIs(is_settled(later), True)
                    for point, word in answers(table):
                        if word == "answered":
                            self.assertEqual(call(later, point), call(table, point))
                    longest = max(longest, len(decided))
        self.assertGreater(longest, 3)

    def test_decided_points_in_their_order(self):
        table = MethodTable(WIDE, 1, {("a",): ONE, ("b",): TWO, ("e",): THREE})
        found = settle(table, FOUR)
        self.assert_same([type(found), len(found)], [tuple, 2])
        later, decided = found
        self.assert_same(decided, [("c",), ("d",), ("n",), ("o",)])
        self.assertEqual(later.points(), [("a",), ("b",), ("c",), ("d",), ("e",), ("n",), ("o",)])
        self.assertEqual(later.body(("n",)), FOUR)
        self.assertEqual(settle(body=FOUR, table=table), (later, decided))
        self.assertEqual(table, MethodTable(WIDE, 1, {("a",): ONE, ("b",): TWO, ("e",): THREE}))

    def test_keepers_are_no_decided_points(self):
        later, decided = settle(table_of(BASE), ())
        self.assertEqual(decided, [("c",)])
        self.assertEqual(later.points(), [("a",), ("b",), ("c",), ("d",), ("m",), ("o",)])

    def test_the_first_conflict_is_decided_each_time(self):
        for rows, count, methods in support.samples(63, 120):
            later, decided = settle(MethodTable(Hierarchy(rows), count, methods), ONE)
            table = MethodTable(Hierarchy(rows), count, methods)
            for point in decided:
                self.assertEqual(conflicts(table)[0], point)
                table = decide(table, point, ONE)[0]
            self.assertEqual(table, later)

    def test_a_table_that_is_settled_already(self):
        for table in (MethodTable(KINDS, 1), MethodTable(Hierarchy(), 3), MethodTable(KINDS, 2, {("ball", "ball"): ONE})):
            self.assertEqual(settle(table, ()), (table, []))
            for value in BAD_BODIES:
                self.assert_raises(InvalidBody, value, settle, table, value)

    def test_values_that_are_no_bodies(self):
        for value in BAD_BODIES:
            self.assert_raises(InvalidBody, value, settle, table_of(BASE), value)
        self.assert_raises(InvalidBody, (("call", "f", (1,)),), settle, table_of(BASE), (("call", "f", (1,)),))
        body = (("call", "f", (0,)),)
        self.assertEqual(settle(table_of(BASE), body)[0].body(("c",)), body)

    def test_too_many(self):
        """Two methods with many classes below both."""
        for number in (17, 18):
            names = support.TWENTY[2:2 + number]
            hierarchy = Hierarchy([("a", ()), ("b", ()), *[(name, ("a", "b")) for name in names]])
            one = MethodTable(hierarchy, 1, {("a",): ONE, ("b",): TWO})
            self.assertEqual(settle(one, ())[1], [(name,) for name in names])
            two = MethodTable(hierarchy, 2, {("a", "a"): ONE, ("b", "b"): TWO})
            self.assert_raises(TooMany, 40, settle, two, ())
            self.assertEqual(len(two), 2)
        alone = [(name, ()) for name in "ijk"]
        hierarchy = Hierarchy([("a", ()), ("b", ()), *[(name, ("a", "b")) for name in "cdefgh"], *alone])
        two = MethodTable(hierarchy, 2, {("a", "a"): ONE, ("b", "b"): TWO, ("i", "i"): (), ("j", "j"): ()})
        self.assertEqual([len(settle(two, ())[0]), len(settle(two, ())[1])], [40, 36])
        self.assert_raises(TooMany, 40, settle, two.with_method(("k", "k"), ()), ())

    def test_returned_lists_are_new(self):
        table = table_of(BASE)
        settle(table, ())[1].clear()
        self.assertEqual(settle(table, ())[1], [("c",)])


if __name__ == "__main__":
    unittest.main()
