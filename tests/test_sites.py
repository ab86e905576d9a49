"""Sites: when they end, point [23]; RECEIPTS EXACT, CONFLICTS NEEDED, ONE SMALLEST and LOCAL inside a dispatcher."""

import random
import unittest

import support
from fewestmethods import errors
from fewestmethods.calls import status
from fewestmethods.conflicts import conflicts
from fewestmethods.dispatcher import Dispatcher
from fewestmethods.errors import Ambiguous
from fewestmethods.errors import NoMethod
from fewestmethods.errors import Unsettled
from fewestmethods.hierarchy import Hierarchy
from fewestmethods.reduction import redundant_points
from fewestmethods.tables import MethodTable

KINDS = Hierarchy(support.KINDS)
A = (("say", "a"),)
B = (("say", "b"),)
NEXT = (("next",),)
OWN_ERRORS = support.OWN_ERRORS


def reference_of(table):
    rows = [(name, table.hierarchy().superclasses(name)) for name in table.hierarchy().names()]
    return support.Reference(rows, table.count(), {point: table.body(point) for point in table.points()})


def is_covered(reference, receipt, point):
    above, fences = receipt
    if not reference.is_at_or_below(point, above):
        return False
    return not any(reference.is_at_or_below(point, fence) for fence in fences)


def has_ended(dispatcher, site):
    """Point [23] in the words of the document, for a site (function, receipt, expansion) after an edit."""
    function, (above, fences), expansion = site
    names = dispatcher.hierarchy().names()
    if any(name not in names for point in (above, *fences) for name in point):
        return True
    reference = reference_of(dispatcher.table(function))
    covered = [point for point in reference.every if is_covered(reference, (above, fences), point)]
    return any(reference.outcome(point) != ("answered", expansion) for point in covered)


class ByHandTest(support.Case):
    def setUp(self):
        self.dispatcher = Dispatcher(KINDS)
        self.dispatcher.add_function("show", 1)
        self.dispatcher.define("show", ("thing",), A)
        self.dispatcher.add_function("mark", 2)
        self.dispatcher.define("mark", ("thing", "thing"), B)

    def test_define(self):
        self.assertEqual(self.dispatcher.watch("show", ("ball",)), 1)
        self.assertEqual(self.dispatcher.watch("mark", ("ball", "ball")), 2)
        self.assert_same(self.dispatcher.define("show", ("thing",), A), [])
        self.assert_same(self.dispatcher.define("show", ("shape",), NEXT), [])
        self.assert_same(self.dispatcher.define("show", ("solid",), A), [])
        self.assert_same(self.dispatcher.define("mark", ("solid", "solid"), A), [2])
        self.assert_same(self.dispatcher.define("show", ("ball",), B), [1])
        self.assert_same(self.dispatcher.sites(), [])

    def test_define_behind_a_fence(self):
        self.dispatcher.define("show", ("solid",), B)
        self.assertEqual(self.dispatcher.watch("show", ("shape",)), 1)
        self.assertEqual(self.dispatcher.watch("show", ("ball",)), 2)
        self.assert_same(self.dispatcher.site(1), ("show", (("thing",), (("solid",),)), A))
        self.assert_same(self.dispatcher.define("show", ("ball",), A), [2])
        self.assert_same(self.dispatcher.define("show", ("shape",), A), [])
        self.assert_same(self.dispatcher.define("show", ("solid",), A), [])
        self.assert_same(self.dispatcher.define("show", ("shape",), B), [1])

    def test_a_method_above_changes_the_expansion_below(self):
        self.dispatcher.define("show", ("solid",), NEXT + B)
        self.assertEqual(self.dispatcher.watch("show", ("solid",)), 1)
        self.dispatcher.define("show", ("ball",), A)
        self.assertEqual(self.dispatcher.watch("show", ("ball",)), 2)
        self.assertEqual(self.dispatcher.sites(), [2])
        self.assertEqual(self.dispatcher.watch("show", ("solid",)), 3)
        self.assert_same(self.dispatcher.define("show", ("thing",), B), [3])
        self.assert_same(self.dispatcher.sites(), [2])

    def test_several_end_in_rising_order(self):
        for number in (1, 2, 3, 4):
            self.assertEqual(self.dispatcher.watch(("show", "mark")[number % 2], ("ball",) * (number % 2 + 1)), number)
        self.assert_same(self.dispatcher.define("show", ("ball",), ()), [2, 4])
        self.assert_same(self.dispatcher.sites(), [1, 3])
        self.assertEqual(self.dispatcher.watch("show", ("ball",)), 5)
        self.assert_same(self.dispatcher.add_class("cube", ("solid", "shape")), [])
        self.assert_same(self.dispatcher.drop("mark", ("thing", "thing")), [1, 3])
        self.assert_same(self.dispatcher.sites(), [5])

    def test_add_class_ends_sites_of_several_functions(self):
        self.dispatcher.drop("show", ("thing",))
        for function, point, body in (
            ("show", ("shape",), A), ("show", ("solid",), B), ("show", ("ball",), ()),
            ("mark", ("shape", "ball"), A), ("mark", ("solid", "ball"), ()), ("mark", ("ball", "ball"), A),
        ):
            self.dispatcher.define(function, point, body)
        wanted = [("mark", ("shape", "ball")), ("show", ("solid",)), ("mark", ("thing", "thing")), ("show", ("shape",))]
        for number, (function, point) in enumerate(wanted, 1):
            self.assertEqual(self.dispatcher.watch(function, point), number)
        self.assert_same(self.dispatcher.clone().add_class("cube", ("solid",)), [])
        self.assert_same(self.dispatcher.clone().add_class("cube", ("ball",)), [])
        self.assert_same(self.dispatcher.add_class("cube", ("solid", "shape")), [1, 2, 4])
        self.assert_same(self.dispatcher.sites(), [3])

    def test_drop(self):
        self.dispatcher.define("show", ("solid",), A)
        self.dispatcher.define("show", ("ball",), B)
        self.assertEqual(self.dispatcher.watch("show", ("solid",)), 1)
        self.assertEqual(self.dispatcher.watch("show", ("ball",)), 2)
        self.assertEqual(self.dispatcher.watch("show", ("thing",)), 3)
        self.assert_same(self.dispatcher.drop("show", ("solid",)), [])
        self.assert_same(self.dispatcher.site(1), ("show", (("solid",), (("ball",),)), A))
        self.assert_same(self.dispatcher.drop("show", ("ball",)), [2])
        self.assert_same(self.dispatcher.drop("show", ("thing",)), [1, 3])

    def test_a_class_of_the_receipt_is_removed(self):
        self.dispatcher.define("show", ("ball",), A)
        self.assertEqual(self.dispatcher.watch("show", ("ball",)), 1)
        self.assertEqual(self.dispatcher.watch("mark", ("ball", "ball")), 2)
        self.assertEqual(self.dispatcher.drop("show", ("ball",)), [])
        self.assert_same(self.dispatcher.sites(), [1, 2])
        self.assert_same(self.dispatcher.remove_class("ball"), [1])
        self.assert_same(self.dispatcher.sites(), [2])

    def test_a_class_of_a_fence_is_removed(self):
        self.dispatcher.define("show", ("ball",), A)
        self.dispatcher.define("mark", ("solid", "ball"), B)
        self.assertEqual(self.dispatcher.watch("mark", ("thing", "thing")), 1)
        self.assertEqual(self.dispatcher.watch("show", ("thing",)), 2)
        self.dispatcher.drop("show", ("ball",))
        self.dispatcher.drop("mark", ("solid", "ball"))
        self.assertEqual(self.dispatcher.watch("show", ("thing",)), 3)
        self.assert_same(self.dispatcher.remove_class("ball"), [1, 2])
        self.assert_same(self.dispatcher.sites(), [3])

    def test_a_class_that_comes_back_brings_no_site_back(self):
        self.dispatcher.define("show", ("ball",), A)
        self.assertEqual(self.dispatcher.watch("show", ("thing",)), 1)
        self.dispatcher.drop("show", ("ball",))
        self.assert_same(self.dispatcher.remove_class("ball"), [1])
        self.assert_same(self.dispatcher.add_class("ball", ("shape", "solid")), [])
        self.assert_same(self.dispatcher.sites(), [])

    def test_the_receipt_covers_points_in_the_new_hierarchy(self):
        self.dispatcher.define("show", ("solid",), B)
        self.dispatcher.define("show", ("ball",), A)
        self.assertEqual(self.dispatcher.watch("show", ("shape",)), 1)
        self.assert_same(self.dispatcher.site(1)[1], (("thing",), (("solid",),)))
        self.assert_same(self.dispatcher.add_class("cube", ("shape",)), [])
        self.assert_same(self.dispatcher.define("show", ("cube",), B), [1])

    def test_a_new_point_that_is_covered_and_ambiguous(self):
        dispatcher = Dispatcher(Hierarchy([("a", ()), ("b", ())]))
        dispatcher.add_function("f", 1)
        dispatcher.define("f", ("a",), A)
        dispatcher.define("f", ("b",), B)
        self.assertEqual([dispatcher.watch("f", ("a",)), dispatcher.watch("f", ("b",))], [1, 2])
        self.assert_same(dispatcher.add_class("c", ("a",)), [])
        self.assert_same(dispatcher.add_class("d", ()), [])
        self.assert_same(dispatcher.add_class("e", ("b", "d")), [])
        self.assert_same(dispatcher.add_class("g", ("e", "c")), [1, 2])

    def test_decide_and_reduce_end_no_site(self):
        self.dispatcher.define("show", ("shape",), A)
        self.dispatcher.define("show", ("solid",), B)
        self.assertEqual(self.dispatcher.watch("show", ("thing",)), 1)
        self.assertEqual(self.dispatcher.decide("show", ("ball",), ()), ([], []))
        self.assertEqual(self.dispatcher.watch("show", ("shape",)), 2)
        self.assertEqual(self.dispatcher.reduce("show"), [("shape",)])
        self.assert_same(self.dispatcher.sites(), [1, 2])
        self.assert_same(self.dispatcher.site(2), ("show", (("shape",), (("ball",),)), A))

    def test_numbers_are_never_given_twice(self):
        for number in range(1, 30):
            self.assertEqual(self.dispatcher.watch("show", ("ball",)), number)
            self.assert_same(self.dispatcher.define("show", ("ball",), (A, B)[number % 2]), [number])

    def test_unsettled_with_the_first_point_as_listed(self):
        dispatcher = Dispatcher(Hierarchy([("a", ()), ("b", ()), ("c", ("a", "b")), ("d", ("b", "a")), ("e", ("a",))]))
        dispatcher.add_function("f", 1)
        dispatcher.define("f", ("a",), A)
        dispatcher.define("f", ("b",), B)
        self.assert_raises(Unsettled, ("c",), dispatcher.watch, "f", ("e",))
        dispatcher.decide("f", ("c",), ())
        self.assert_raises(Unsettled, ("d",), dispatcher.watch, "f", ("a",))
        self.assertEqual(dispatcher.watch("f", ("c",)), 1)
        dispatcher.decide("f", ("d",), ())
        self.assertEqual(dispatcher.watch("f", ("a",)), 2)
        self.assert_same(dispatcher.sites(), [1, 2])


def random_edit(source, dispatcher):
    """A random edit as a tuple (method, arguments); many of them raise errors."""
    names = dispatcher.hierarchy().names()
    function = source.choice(dispatcher.functions())
    count = dispatcher.table(function).count()
    point = tuple(source.choices(names, k=count))
    points = dispatcher.table(function).points()
    known = source.choice(points) if points else point
    free = [letter for letter in support.TWENTY[:7] if letter not in names]
    return source.choice([
        ("define", (function, point, source.choice(support.PLAIN_BODIES[:3] + support.NEXT_BODIES[:2]))),
        ("define", (function, known, source.choice(support.PLAIN_BODIES[:3]))),
        ("drop", (function, known)),
        ("add_class", (source.choice(free or ["a"]), tuple(source.sample(names, min(len(names), source.randint(0, 3)))))),
        ("remove_class", (source.choice(names),)),
        ("remove_class", (names[-1],)),
        ("decide", (function, source.choice(conflicts(dispatcher.table(function)) or [point]), ())),
        ("reduce", (function,)),
        ("watch", (function, point)),
        ("watch", (function, point)),
    ])


def sample_dispatcher(source):
    rows = support.sample_rows(source, 4)
    dispatcher = Dispatcher(Hierarchy(rows))
    for name, count in (("f", 1), ("g", 2)):
        dispatcher.add_function(name, count)
        for point, body in support.sample_methods(source, rows, count, 4).items():
            try:
                dispatcher.define(name, point, body)
            except errors.NoNext:
                pass
    return dispatcher


class EverySequenceTest(support.Case):
    def test_sites_end_exactly_as_the_document_says(self):
        source = random.Random(721)
        seen = {}
        for _ in range(150):
            dispatcher = sample_dispatcher(source)
            numbers = 0
            for _ in range(60):
                method, values = random_edit(source, dispatcher)
                before = dispatcher.clone()
                try:
                    result = getattr(dispatcher, method)(*values)
                except OWN_ERRORS as error:
                    self.assertEqual(dispatcher, before)
                    if isinstance(error, Unsettled):
                        self.assert_first_unsettled(before, values, error.point)
                    continue
                sites = {number: before.site(number) for number in before.sites()}
                wanted = [number for number, site in sites.items() if has_ended(dispatcher, site)]
                if method == "watch":
                    numbers += 1
                    self.assertEqual(result, numbers)
                    sites[result] = dispatcher.site(result)
                elif method in ("decide", "reduce"):
                    self.assertEqual(wanted, [])
                else:
                    self.assert_same(result, wanted)
                    key = (method, bool(wanted), len(wanted) < len(sites))
                    seen[key] = seen.get(key, 0) + 1
                self.assertEqual(dispatcher.sites(), [number for number in sites if number not in wanted])
                for number in dispatcher.sites():
                    self.assert_same(dispatcher.site(number), sites[number])
        for method in ("define", "drop", "add_class", "remove_class"):
            self.assertIn((method, True, True), seen)
            self.assertIn((method, False, True), seen)

    def assert_first_unsettled(self, dispatcher, values, point):
        function, watched = values
        reference = reference_of(dispatcher.table(function))
        method = reference.rivals(watched)[0]
        covered = [other for other in reference.every if method in reference.rivals(other)]
        wrong = [other for other in covered if reference.outcome(other) != reference.outcome(watched)]
        self.assertEqual(wrong[0], point)

    def test_a_receipt_is_that_of_the_call(self):
        source = random.Random(722)
        for _ in range(80):
            dispatcher = sample_dispatcher(source)
            for function in dispatcher.functions():
                reference = reference_of(dispatcher.table(function))
                for point in reference.every:
                    try:
                        number = dispatcher.watch(function, point)
                    except (NoMethod, Ambiguous, Unsettled, errors.TooMany):
                        continue
                    method = reference.rivals(point)[0]
                    covered = [other for other in reference.every if method in reference.rivals(other)]
                    name, receipt, expansion = dispatcher.site(number)
                    self.assertEqual((name, receipt[0], expansion), (function, method, reference.expansion(method)))
                    wanted = [other for other in reference.every if is_covered(reference, receipt, other)]
                    self.assertEqual(covered, wanted)

    def test_deciding_ends_with_a_settled_table_and_keeps_the_answered_calls(self):
        source = random.Random(723)
        decided = 0
        for _ in range(60):
            dispatcher = sample_dispatcher(source)
            before = {name: reference_of(dispatcher.table(name)) for name in dispatcher.functions()}
            for name in dispatcher.functions():
                while conflicts(dispatcher.table(name)):
                    keepers, written = dispatcher.decide(name, source.choice(conflicts(dispatcher.table(name))), ())
                    self.assertEqual(set(keepers) & set(written), set())
                    decided += 1
                for point in before[name].every:
                    word, expansion = before[name].outcome(point)
                    if word == "answered":
                        self.assertEqual(dispatcher.call(name, point), expansion)
            self.assertIs(dispatcher.is_settled, True)
        self.assertGreater(decided, 20)

    def test_conflicts_need_a_method_each(self):
        source = random.Random(724)
        for _ in range(80):
            dispatcher = sample_dispatcher(source)
            for name in dispatcher.functions():
                found = conflicts(dispatcher.table(name))
                while conflicts(dispatcher.table(name)):
                    dispatcher.decide(name, conflicts(dispatcher.table(name))[0], (("say", "z"),))
                self.assertLessEqual(set(found), set(dispatcher.table(name).points()))

    def test_reducing_leaves_the_same_methods_whatever_is_dropped_first(self):
        source = random.Random(725)
        several = 0
        for _ in range(250):
            dispatcher = sample_dispatcher(source)
            for name in dispatcher.functions():
                other = dispatcher.clone()
                while redundant_points(other.table(name)):
                    several += len(redundant_points(other.table(name))) > 1
                    other.drop(name, source.choice(redundant_points(other.table(name))))
                dispatcher.reduce(name)
                self.assertEqual(other.table(name), dispatcher.table(name))
        self.assertGreater(several, 20)

    def test_redundant_by_the_methods_above_only(self):
        source = random.Random(726)
        for _ in range(40):
            dispatcher = sample_dispatcher(source)
            for name in dispatcher.functions():
                table = dispatcher.table(name)
                for point in table.points():
                    above = [one for one in table.points() if one == point or one in reference_of(table).applicable(point)]
                    alone = MethodTable(table.hierarchy(), table.count(), {one: table.body(one) for one in above})
                    self.assertIs(point in redundant_points(alone), point in redundant_points(table))
                    self.assertEqual(status(alone, point), "answered")


if __name__ == "__main__":
    unittest.main()
