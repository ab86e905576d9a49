"""All guarantees of point [4] that speak of tables and sites, after sequences of operations; ALONE stands in test_linking."""

import itertools
import random
import unittest

import support
from fewestmethods.calls import answers
from fewestmethods.calls import call
from fewestmethods.comparison import is_equal_in_calls
from fewestmethods.conflicts import conflicts
from fewestmethods.conflicts import is_settled
from fewestmethods.errors import TooMany
from fewestmethods.futures import class_plan
from fewestmethods.hierarchy import Hierarchy
from fewestmethods.linking import linked
from fewestmethods.linking import own_removals
from fewestmethods.modules import Module
from fewestmethods.reduction import is_redundant
from fewestmethods.reduction import reduced
from fewestmethods.reduction import redundant_points
from fewestmethods.running import run
from fewestmethods.sessions import Session
from fewestmethods.tables import MethodTable
from fewestmethods.threats import threats
from session_support import sample_operation
from test_sites import has_ended

FREE_NAMES = ("newa", "newb", "newc")


def sample_sessions(seed, amount, size=45):
    """Sessions of small hierarchies, many of them with repeated methods, always the same for a seed."""
    source = random.Random(seed)
    for _ in range(amount):
        session = Session()
        session.perform_all([("class", *row) for row in support.sample_rows(source, 4)])
        session.perform_all([("function", "f", 1), ("function", "g", 2)])
        for _ in range(size):
            support.outcome_of(session.perform, sample_operation(source, session.dispatcher()))
        repeat_calls(source, session)
        yield source, session


def repeat_calls(source, session):
    """Defines methods that say what is called at their points anyway."""
    dispatcher = session.dispatcher()
    for function in dispatcher.functions():
        points = support.every_point(dispatcher.table(function))
        for point in source.sample(points, min(len(points), 4)):
            word, steps = support.outcome_of(session.dispatcher().call, function, point)
            if word == "result":
                support.outcome_of(session.perform, ("define", function, point, steps))


def tables_of(session):
    dispatcher = session.dispatcher()
    return {function: dispatcher.table(function) for function in dispatcher.functions()}


def answered(table):
    """A dict from the points that are answered to their expansions."""
    return {point: call(table, point) for point, word in answers(table) if word == "answered"}


def later_rows(source, names, amount):
    """Rows of classes that can be added one after the other."""
    rows = []
    for name in FREE_NAMES[:amount]:
        known = [*names, *[row[0] for row in rows]]
        rows.append((name, tuple(source.sample(known, min(len(known), source.randint(1, 3))))))
    return rows


class ReducingTest(support.Case):
    def test_one_smallest_and_local(self):
        several = 0
        for source, session in sample_sessions(951, 40):
            for function, table in tables_of(session).items():
                other = session.clone()
                while points := redundant_points(other.dispatcher().table(function)):
                    several += len(points) > 1
                    other.perform(("drop", function, source.choice(points)))
                removed = session.perform(("reduce", function))
                self.assertEqual(session.dispatcher().table(function), other.dispatcher().table(function))
                self.assertEqual(session.dispatcher().table(function), reduced(table))
                self.assertEqual(removed, [point for point in table.points() if point not in reduced(table).points()])
                for point in table.points():
                    above = support.applicable_by_definition(table, point)
                    alone = MethodTable(table.hierarchy(), table.count(), {one: table.body(one) for one in above})
                    self.assertIs(is_redundant(alone, point), is_redundant(table, point))
        self.assertGreater(several, 20)

    def test_the_points_that_are_left_belong_to_every_settled_table_with_the_same_calls(self):
        compared = 0
        for hierarchy in support.hierarchies_of(("z", "y")):
            points = list(itertools.product("zy", repeat=2))
            by_calls = {}
            for bodies in itertools.product((None, (), (("say", "x"),), (("next",), ("say", "x"))), repeat=4):
                methods = {point: body for point, body in zip(points, bodies) if body is not None}
                word, table = support.outcome_of(MethodTable, hierarchy, 2, methods)
                if word == "result" and is_settled(table):
                    by_calls.setdefault(tuple(answered(table).items()), []).append(table)
            for tables in by_calls.values():
                for one, two in itertools.product(tables, repeat=2):
                    compared += one != two
                    self.assertIs(is_equal_in_calls(one, two), True)
                    self.assertLessEqual(set(reduced(one).points()), set(two.points()))
        self.assertGreater(compared, 100)

    def test_best_for_later_classes(self):
        better = 0
        for source, session in sample_sessions(952, 120, 25):
            for table in tables_of(session).values():
                if not is_settled(table) or table.count() > 2:
                    continue
                others = [table, *[other for other in self.variants(source, table) if is_equal_in_calls(table, other)]]
                rows = later_rows(source, table.hierarchy().names(), 3)
                best = answered(self.with_classes(reduced(table), rows))
                for other in others:
                    found = answered(self.with_classes(other, rows))
                    better += len(found) < len(best)
                    self.assertLessEqual(set(found.items()), set(best.items()))
        self.assertGreater(better, 5)

    def variants(self, source, table):
        """Tables with one more method that says what is called at its point anyway."""
        found = [reduced(table)]
        for point, steps in source.sample(list(answered(table).items()), min(3, len(answered(table)))):
            word, other = support.outcome_of(found[-1].with_method, point, steps)
            if word == "result":
                found.append(other)
        return found

    def with_classes(self, table, rows):
        for name, superclasses in rows:
            table = table.with_class(name, superclasses)
        return table

    def test_same_runs(self):
        removed = 0
        for _, session in sample_sessions(953, 40):
            for function, table in tables_of(session).items():
                if is_settled(table):
                    before = self.runs(session)
                    removed += len(session.perform(("reduce", function)))
                    self.assertEqual(self.runs(session), before)
        self.assertGreater(removed, 50)

    def runs(self, session):
        found = []
        for function, table in tables_of(session).items():
            for point in support.every_point(table)[:60]:
                for limit in (0, 2, 200):
                    session.run_limit = limit
                    found.append(support.outcome_of(session.run, function, point))
        return found


class DecidingTest(support.Case):
    def test_conflicts_needed(self):
        decided = 0
        for source, session in sample_sessions(954, 60):
            for function, table in tables_of(session).items():
                before = answered(table)
                found = conflicts(table)
                try:
                    while left := conflicts(session.dispatcher().table(function)):
                        session.perform(("decide", function, source.choice(left), source.choice(support.PLAIN_BODIES)))
                        decided += 1
                except TooMany:
                    continue
                later = session.dispatcher().table(function)
                self.assertIs(is_settled(later), True)
                self.assertLessEqual(set(found), set(later.points()) - set(table.points()))
                self.assertLessEqual(set(before.items()), set(answered(later).items()))
        self.assertGreater(decided, 30)


class LaterClassesTest(support.Case):
    def test_threats_exact(self):
        threatened, safe = 0, 0
        for source, session in sample_sessions(955, 60, 35):
            for function, table in tables_of(session).items():
                if not is_settled(table):
                    continue
                pairs = threats(table)
                for first, second in pairs:
                    classes, point = class_plan(table, first, second)
                    later = session.clone()
                    later.perform_all([("class", *row) for row in classes])
                    with self.subTest(first=first, second=second):
                        self.assertIs(is_settled(later.dispatcher().table(function)), False)
                        self.assertEqual(support.outcome_of(later.run, function, point)[0], "Ambiguous")
                    threatened += 1
                if not pairs and len(table) > 1:
                    for amount in (1, 2, 3):
                        rows = later_rows(source, table.hierarchy().names(), amount)
                        later = session.clone()
                        later.perform_all([("class", *row) for row in rows])
                        self.assertIs(is_settled(later.dispatcher().table(function)), True)
                        safe += 1
        self.assertGreater(min(threatened, safe), 20)


class SitesTest(support.Case):
    def test_receipts_exact(self):
        ended = 0
        for source, session in sample_sessions(956, 12, 30):
            for _ in range(30):
                before = session.dispatcher()
                operation = sample_operation(source, before)
                word, result = support.outcome_of(session.perform, operation)
                later = session.dispatcher()
                sites = {number: before.site(number) for number in before.sites()}
                wanted = [number for number, site in sites.items() if has_ended(later, site)]
                if word == "result" and operation[0] in ("class", "remove", "define", "drop"):
                    self.assertEqual(result, wanted)
                    ended += len(wanted)
                else:
                    self.assertEqual(wanted, [])
                self.assertEqual([number for number in sites if number not in later.sites()], wanted)
                if word == "result":
                    session.undo()
                    self.assertEqual({number: session.dispatcher().site(number) for number in sites}, sites)
                    session.redo()
                    self.assertEqual(session.dispatcher(), later)
        self.assertGreater(ended, 10)


class AloneTest(support.Case):
    def test_modules_reduced_alone_have_the_same_runs(self):
        source = random.Random(957)
        removed = 0
        for _ in range(60):
            modules = self.sample_modules(source)
            smaller = []
            for module in modules:
                gone = own_removals(modules, module.name())
                removed += len(gone)
                left = tuple(row for row in module.methods() if row[:2] not in gone)
                parts = {"imports": module.imports(), "classes": module.classes(), "functions": module.functions()}
                smaller.append(Module(module.name(), **parts, methods=left))
            whole, small = linked(modules), linked(smaller[::-1])
            reduced_later = whole.clone()
            for function in whole.functions():
                reduced_later.reduce(function)
            self.assertEqual(small, reduced_later)
            if whole.is_settled:
                for function, point in itertools.product(whole.functions(), whole.hierarchy().names()):
                    wanted = support.outcome_of(run, whole, function, (point,))
                    self.assertEqual(support.outcome_of(run, small, function, (point,)), wanted)
        self.assertGreater(removed, 20)

    def sample_modules(self, source):
        """Three modules, each of which imports those before it."""
        rows = support.sample_rows(source, 6)
        modules = []
        for at, name in enumerate(("one", "two", "three")):
            classes = tuple(rows[2 * at: 2 * at + 2])
            functions = (("f", 1), ("g", 1)) if at == 0 else ()
            methods = []
            for function, (class_name, _) in itertools.product("fg", classes):
                if source.random() < 0.7:
                    body = source.choice(((), (("say", "x"),), (("say", "y"), ("call", "f", (0,))), (("call", "g", ("a",)),)))
                    methods.append((function, (class_name,), body))
            imports = tuple(one.name() for one in modules)
            modules.append(Module(name, imports=imports, classes=classes, functions=functions, methods=tuple(methods)))
        self.assertEqual(linked(modules).hierarchy(), Hierarchy(rows))
        return modules


if __name__ == "__main__":
    unittest.main()
