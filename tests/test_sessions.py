"""Sessions: operations, undo and redo, point [28]; copies, and the run limit."""

import random
import unittest

import support
from fewestmethods.errors import InvalidLimit
from fewestmethods.errors import InvalidOperation
from fewestmethods.errors import NotFound
from fewestmethods.errors import NothingToRedo
from fewestmethods.errors import NothingToUndo
from fewestmethods.errors import TooManySteps
from fewestmethods.running import run
from fewestmethods.sessions import Session
from session_support import NEXT
from session_support import NO_OPERATIONS
from session_support import OPERATIONS
from session_support import RESULTS
from session_support import dispatcher_after
from session_support import next_number
from session_support import performed
from session_support import sample_operation
from session_support import session_after
from session_support import state_of

A = (("say", "a"),)
B = (("say", "b"),)
NO_LIMITS = support.STRANGE + support.LISTS + support.TUPLES + support.STRINGS + (-1, 201, 10**59, "0", "200", (200,))

# After OPERATIONS each of these raises an error with these attributes.
REFUSED = [
    (("class", "ball", ()), "NameTaken", {"value": "ball"}),
    (("class", "ball", ("none",)), "NameTaken", {"value": "ball"}),
    (("class", "cube", ("none",)), "InvalidSuperclasses", {"value": ("none",)}),
    (("class", "cube", ("ball", "ball")), "InvalidSuperclasses", {"value": ("ball", "ball")}),
    (("class", "cube", ("cube",)), "InvalidSuperclasses", {"value": ("cube",)}),
    (("remove", "none"), "NotFound", {"value": "none"}),
    (("remove", "thing"), "InUse", {"value": "shape"}),
    (("remove", "ball"), "InUse", {"value": "mark"}),
    (("function", "show", 1), "NameTaken", {"value": "show"}),
    (("define", "none", ("none",), A), "NotFound", {"value": "none"}),
    (("define", "show", ("none",), A), "InvalidPoint", {"value": ("none",)}),
    (("define", "show", ("ball", "ball"), A), "InvalidPoint", {"value": ("ball", "ball")}),
    (("define", "show", ("ball",), (("call", "f", (1,)),)), "InvalidBody", {"value": (("call", "f", (1,)),)}),
    (("define", "show", ("thing",), NEXT), "NoNext", {"point": ("thing",)}),
    (("define", "show", ("ball",), NEXT), "NoNext", {"point": ("ball",)}),
    (("drop", "none", ("ball",)), "NotFound", {"value": "none"}),
    (("drop", "show", ("ball",)), "NotFound", {"value": ("ball",)}),
    (("drop", "show", ("thing",)), "NoNext", {"point": ("solid",)}),
    (("decide", "none", ("ball", "ball"), A), "NotFound", {"value": "none"}),
    (("decide", "mark", ("ball",), A), "InvalidPoint", {"value": ("ball",)}),
    (("decide", "mark", ("thing", "thing"), A), "NotAConflict", {"point": ("thing", "thing")}),
    (("decide", "mark", ("ball", "ball"), NEXT), "InvalidBody", {"value": NEXT}),
    (("reduce", "none"), "NotFound", {"value": "none"}),
    (("watch", "none", ("ball",)), "NotFound", {"value": "none"}),
    (("watch", "show", ("none",)), "InvalidPoint", {"value": ("none",)}),
    (("watch", "mark", ("thing", "thing")), "NoMethod", {"point": ("thing", "thing")}),
    (
        ("watch", "mark", ("ball", "ball")), "Ambiguous",
        {"point": ("ball", "ball"), "rivals": [("thing", "ball"), ("ball", "thing")]},
    ),
    (("watch", "mark", ("thing", "ball")), "Unsettled", {"point": ("ball", "ball")}),
]
# After OPERATIONS each of these succeeds, with this result.
ACCEPTED = [
    (("class", "cube", ()), []),
    (("class", "cube", ("shape", "solid")), []),
    (("function", "thing", 3), None),
    (("define", "mark", ("ball", "ball"), A), []),
    (("define", "show", ("shape",), B), [2]),
    (("define", "show", ("thing",), A), []),
    (("drop", "show", ("shape",)), []),
    (("decide", "mark", ("ball", "ball"), ()), ([], [])),
    (("decide", "show", ("ball",), B), ([], [])),
    (("reduce", "show"), [("shape",)]),
    (("reduce", "mark"), []),
]


class SessionCase(support.Case):
    def assert_unchanged(self, session, wanted, attributes, action, *values):
        """The error, and the session is as before, also what can be redone."""
        before = state_of(session)
        self.assert_error(wanted, attributes, action, *values)
        self.assertEqual(state_of(session), before)


class NewTest(SessionCase):
    def test_a_new_one(self):
        session = Session()
        self.assert_same(session.operations(), [])
        self.assert_same(len(session), 0)
        self.assert_same(str(session), "")
        self.assertEqual(session.dispatcher(), dispatcher_after([]))
        self.assertIs(session.can_undo, False)
        self.assertIs(session.can_redo, False)
        self.assert_same(session.run_limit, 200)
        self.assert_unchanged(session, NothingToUndo, {}, session.undo)
        self.assert_unchanged(session, NothingToRedo, {}, session.redo)

    def test_sessions_are_independent(self):
        first, second = Session(), Session()
        first.perform(("class", "a", ()))
        self.assert_same(second.operations(), [])
        self.assertEqual(second.dispatcher().hierarchy().names(), [])


class PerformTest(SessionCase):
    def test_each_operation_with_its_result(self):
        session = Session()
        for at, (operation, wanted) in enumerate(zip(OPERATIONS, RESULTS)):
            self.assert_same(session.perform(operation), wanted)
            self.assert_same(session.operations(), OPERATIONS[: at + 1])
            self.assert_same(len(session), at + 1)
            self.assertEqual(session.dispatcher(), dispatcher_after(OPERATIONS[: at + 1]))

    def test_more_operations(self):
        for operation, wanted in ACCEPTED:
            session = session_after(OPERATIONS)
            self.assert_same(session.perform(operation=operation), wanted)
            self.assert_same(session.operations(), [*OPERATIONS, operation])
            self.assertEqual(session.dispatcher(), dispatcher_after([*OPERATIONS, operation]))

    def test_a_class_that_is_removed_ends_sites(self):
        operations = [
            ("class", "a", ()), ("class", "b", ("a",)), ("function", "f", 1), ("define", "f", ("a",), ()),
            ("define", "f", ("b",), ()), ("watch", "f", ("a",)), ("watch", "f", ("b",)), ("drop", "f", ("b",)),
        ]
        session = session_after(operations)
        self.assert_same(session.perform(("remove", "b")), [1, 2])

    def test_a_decision_with_keepers_and_written_out(self):
        operations = [
            ("class", "a", ()), ("class", "b", ()), ("class", "c", ("a", "b")), ("class", "d", ("a", "b")),
            ("class", "m", ("c", "d")), ("class", "n", ("c", "d")), ("function", "f", 1), ("define", "f", ("a",), A),
            ("define", "f", ("b",), B), ("define", "f", ("d",), ()), ("define", "f", ("n",), NEXT),
        ]
        session = session_after(operations)
        self.assert_same(session.perform(("decide", "f", ("c",), A)), ([("m",)], [("n",)]))

    def test_errors_change_nothing(self):
        for undone in (0, 2):
            session = session_after([*OPERATIONS, ("class", "one", ()), ("class", "two", ("one",))][: 13 + undone])
            for _ in range(undone):
                session.undo()
            for operation, name, attributes in REFUSED:
                with self.subTest(operation=operation):
                    before = state_of(session)
                    self.assertEqual(support.outcome_of(session.perform, operation), (name, attributes))
                    self.assertEqual(state_of(session), before)
            self.assertIs(session.can_redo, undone > 0)

    def test_values_that_are_no_operations(self):
        session = session_after(OPERATIONS)
        session.undo()
        for value in NO_OPERATIONS:
            with self.subTest(value=value):
                self.assert_error(InvalidOperation, {"value": value}, session.perform, value)
        self.assertEqual(state_of(session), state_of(undone_session(OPERATIONS, 1)))

    def test_limits(self):
        letters = support.TWENTY
        operations = [("class", letter, ()) for letter in letters] + [("function", letter, 2) for letter in "abcdefgh"]
        session = session_after(operations)
        wanted = ("TooMany", {"limit": 20})
        self.assertEqual(support.outcome_of(session.perform, ("class", "u", ())), wanted)
        self.assertEqual(support.outcome_of(session.perform, ("function", "i", 1)), ("TooMany", {"limit": 8}))
        for one in letters:
            for two in "ab":
                session.perform(("define", "a", (one, two), ()))
        self.assertEqual(support.outcome_of(session.perform, ("define", "a", ("a", "c"), ())), ("TooMany", {"limit": 40}))
        for number in range(1, 21):
            self.assert_same(session.perform(("watch", "a", ("a", "a"))), number)
        self.assertEqual(support.outcome_of(session.perform, ("watch", "a", ("a", "a"))), wanted)
        self.assert_same(len(session), 20 + 8 + 40 + 20)

    def test_samples(self):
        source = random.Random(921)
        seen = {}
        for _ in range(60):
            session, dispatcher, succeeded = Session(), dispatcher_after([]), []
            for _ in range(60):
                operation = sample_operation(source, dispatcher)
                wanted = performed(dispatcher, operation)
                self.assertEqual(support.outcome_of(session.perform, operation), wanted)
                if wanted[0] == "result":
                    succeeded.append(operation)
                seen[wanted[0], operation[0]] = seen.get((wanted[0], operation[0]), 0) + 1
                self.assertEqual(session.dispatcher(), dispatcher)
            self.assert_same(session.operations(), succeeded)
        for word in ("class", "remove", "function", "define", "drop", "decide", "reduce", "watch"):
            self.assertGreater(seen["result", word], 10)


def undone_session(operations, undone):
    """A session that performed the operations and undid some of them."""
    session = session_after(operations)
    for _ in range(undone):
        session.undo()
    return session


class UndoTest(SessionCase):
    def test_every_number_of_steps(self):
        every = [*OPERATIONS, ("decide", "mark", ("ball", "ball"), ()), ("reduce", "show"), ("class", "cube", ("solid",))]
        size = len(every)
        for undone in range(size + 1):
            session = session_after(every)
            for at in range(undone):
                self.assertIs(session.can_undo, True)
                self.assert_same(session.undo(), size - 1 - at)
                left = every[: size - 1 - at]
                self.assert_same(session.operations(), left)
                self.assertEqual(session.dispatcher(), dispatcher_after(left))
                self.assertEqual(next_number(session.dispatcher()), next_number(dispatcher_after(left)))
                self.assertIs(session.can_redo, True)
            for at in range(undone):
                self.assertIs(session.can_redo, True)
                self.assert_same(session.redo(), size - undone + at + 1)
                self.assertEqual(session.dispatcher(), dispatcher_after(every[: size - undone + at + 1]))
                self.assertIs(session.can_undo, True)
            self.assertIs(session.can_redo, False)
            self.assertEqual(state_of(session), state_of(session_after(every)))
            self.assert_unchanged(session, NothingToRedo, {}, session.redo)

    def test_at_the_beginning(self):
        session = undone_session(OPERATIONS, len(OPERATIONS))
        self.assertIs(session.can_undo, False)
        self.assert_unchanged(session, NothingToUndo, {}, session.undo)
        self.assertEqual(session, Session())
        self.assert_same(session.redo(), 1)

    def test_the_numbers_of_sites_are_restored(self):
        session = session_after(OPERATIONS[:9])
        self.assert_same(session.dispatcher().sites(), [1])
        self.assert_same(session.undo(), 8)
        self.assert_same(session.dispatcher().sites(), [])
        self.assert_same(session.perform(("watch", "show", ("thing",))), 1)
        self.assert_same(session.perform(("define", "show", ("thing",), B)), [1])
        self.assert_same(session.perform(("watch", "show", ("thing",))), 2)
        session.undo()
        session.undo()
        self.assert_same(session.dispatcher().sites(), [1])
        self.assert_same(session.perform(("watch", "show", ("thing",))), 2)
        self.assert_same(session.dispatcher().site(1), session.dispatcher().site(2))

    def test_a_new_operation_after_undoing(self):
        session = undone_session(OPERATIONS, 3)
        self.assert_same(session.perform(("class", "cube", ())), [])
        self.assertIs(session.can_redo, False)
        self.assert_unchanged(session, NothingToRedo, {}, session.redo)
        self.assertEqual(state_of(session), state_of(session_after([*OPERATIONS[:-3], ("class", "cube", ())])))
        self.assert_same(session.undo(), len(OPERATIONS) - 3)
        self.assert_same(session.redo(), len(OPERATIONS) - 2)
        self.assertEqual(session.dispatcher().hierarchy().names()[-1], "cube")

    def test_the_same_operation_after_undoing_ends_what_can_be_redone_too(self):
        session = undone_session(OPERATIONS, 2)
        session.perform(OPERATIONS[-2])
        self.assertIs(session.can_redo, False)

    def test_samples(self):
        source = random.Random(922)
        undone, redone = 0, 0
        for _ in range(40):
            session, every, done = Session(), [], 0
            for _ in range(60):
                action = source.choice(("perform", "perform", "perform", "undo", "redo"))
                if action == "undo":
                    wanted = ("result", done - 1) if done > 0 else ("NothingToUndo", {})
                    undone += done > 0
                    done = max(done - 1, 0)
                    self.assertEqual(support.outcome_of(session.undo), wanted)
                elif action == "redo":
                    wanted = ("result", done + 1) if done < len(every) else ("NothingToRedo", {})
                    redone += done < len(every)
                    done = min(done + 1, len(every))
                    self.assertEqual(support.outcome_of(session.redo), wanted)
                else:
                    dispatcher = dispatcher_after(every[:done])
                    operation = sample_operation(source, dispatcher)
                    wanted = performed(dispatcher, operation)
                    self.assertEqual(support.outcome_of(session.perform, operation), wanted)
                    if wanted[0] == "result":
                        every = [*every[:done], operation]
                        done += 1
                self.assert_same(session.operations(), every[:done])
                self.assertIs(session.can_undo, done > 0)
                self.assertIs(session.can_redo, done < len(every))
            self.assertEqual(session.dispatcher(), dispatcher_after(every[:done]))
            self.assertEqual(next_number(session.dispatcher()), next_number(dispatcher_after(every[:done])))
        self.assertGreater(min(undone, redone), 50)


class PerformAllTest(SessionCase):
    def test_none(self):
        session = undone_session(OPERATIONS, 2)
        before = state_of(session)
        self.assert_same(session.perform_all([]), [])
        self.assertEqual(state_of(session), before)
        self.assertIs(session.can_redo, True)
        self.assert_same(Session().perform_all([]), [])

    def test_one_and_several(self):
        for start in range(len(OPERATIONS)):
            for end in range(start + 1, len(OPERATIONS) + 1):
                session = session_after(OPERATIONS[:start])
                given = OPERATIONS[start:end]
                self.assert_same(session.perform_all(operations=given), RESULTS[start:end])
                self.assertEqual(state_of(session), state_of(session_after(OPERATIONS[:end])))
                self.assertEqual(given, OPERATIONS[start:end])

    def test_each_of_them_can_be_undone(self):
        session = Session()
        session.perform_all(OPERATIONS)
        self.assert_same(session.undo(), len(OPERATIONS) - 1)
        self.assertEqual(session, session_after(OPERATIONS[:-1]))
        self.assert_same(session.redo(), len(OPERATIONS))

    def test_nothing_can_be_redone_afterwards(self):
        session = undone_session(OPERATIONS, 2)
        self.assert_same(session.perform_all([("class", "cube", ())]), [[]])
        self.assertIs(session.can_redo, False)
        self.assert_same(len(session), len(OPERATIONS) - 1)

    def test_each_error(self):
        more = [("function", "extra", 1), ("function", "more", 2)]
        for operation, name, attributes in REFUSED:
            for at in range(3):
                session = undone_session([*OPERATIONS, ("class", "one", ())], 1)
                before = state_of(session)
                given = [*more[:at], operation, *more[at:]]
                with self.subTest(given=given):
                    self.assertEqual(support.outcome_of(session.perform_all, given), (name, attributes))
                    self.assertEqual(state_of(session), before)

    def test_an_error_at_the_first_a_middle_and_the_last_one(self):
        good = [("class", "cube", ()), ("watch", "show", ("thing",)), ("define", "show", ("thing",), B)]
        for at in range(4):
            for wrong, name, attributes in (
                (("reduce", "none"), "NotFound", {"value": "none"}),
                (("class", "ball", ()), "NameTaken", {"value": "ball"}),
                (("undo",), "InvalidOperation", {"value": ("undo",)}),
                (None, "InvalidOperation", {"value": None}),
            ):
                session = undone_session(OPERATIONS, 1)
                session.run_limit = 7
                before = state_of(session)
                given = [*good[:at], wrong, *good[at:]]
                self.assertEqual(support.outcome_of(session.perform_all, given), (name, attributes))
                self.assertEqual(state_of(session), before)
                self.assertIs(session.can_redo, True)
                self.assertEqual(given, [*good[:at], wrong, *good[at:]])

    def test_the_first_error_decides(self):
        session = Session()
        given = [("class", "a", ()), ("reduce", "f"), None, ("class", "a", ())]
        self.assert_unchanged(session, NotFound, {"value": "f"}, session.perform_all, given)
        self.assert_unchanged(session, InvalidOperation, {"value": None}, session.perform_all, given[2:])

    def test_the_operations_before_count(self):
        session = Session()
        given = [("class", "a", ()), ("class", "b", ("a",)), ("remove", "b"), ("class", "b", ())]
        self.assert_same(session.perform_all(given), [[], [], [], []])
        self.assertEqual(session.dispatcher().hierarchy().superclasses("b"), ())

    def test_values_that_are_no_lists(self):
        session = undone_session(OPERATIONS, 1)
        before = state_of(session)
        values = support.STRANGE + support.NUMBERS + support.STRINGS + support.TUPLES
        for value in values + (tuple(OPERATIONS), OPERATIONS[0], {OPERATIONS[0]: 1}, "class a\n"):
            with self.subTest(value=value):
                self.assert_error(InvalidOperation, {"value": value}, session.perform_all, value)
        self.assertEqual(state_of(session), before)

    def test_lists_with_values_that_are_no_operations(self):
        for value in NO_OPERATIONS:
            with self.subTest(value=value):
                self.assert_error(InvalidOperation, {"value": value}, Session().perform_all, [value])

    def test_later_changes_of_the_list_have_no_effect(self):
        given = list(OPERATIONS)
        session = Session()
        session.perform_all(given)
        given.clear()
        self.assert_same(session.operations(), OPERATIONS)


class AskedTest(SessionCase):
    def test_returned_values_cannot_change_the_session(self):
        session = session_after(OPERATIONS)
        before = state_of(session)
        session.operations().clear()
        session.operations().append(("class", "x", ()))
        dispatcher = session.dispatcher()
        dispatcher.add_class("more")
        dispatcher.define("show", ("thing",), B)
        dispatcher.reduce("show")
        dispatcher.watch("show", ("thing",))
        self.assertNotEqual(dispatcher, session.dispatcher())
        session.perform(("reduce", "mark")).append(("ball", "ball"))
        session.undo()
        session.perform(("decide", "mark", ("ball", "ball"), ()))[0].append(("ball", "ball"))
        session.undo()
        session.perform_all([("reduce", "mark")])[0].append(("ball", "ball"))
        session.undo()
        self.assertEqual(state_of(session)[:5], before[:5])

    def test_a_returned_dispatcher_stays_as_it_is(self):
        session = session_after(OPERATIONS)
        dispatcher = session.dispatcher()
        session.perform(("define", "show", ("thing",), ()))
        session.undo()
        session.undo()
        self.assertEqual(dispatcher, dispatcher_after(OPERATIONS))

    def test_equal(self):
        self.assertTrue(Session() == Session())
        self.assertFalse(Session() != Session())
        first, second = session_after(OPERATIONS), session_after(OPERATIONS)
        self.assertTrue(first == second)
        first.undo()
        self.assertFalse(first == second)
        self.assertTrue(first != second)
        second.undo()
        self.assertTrue(first == second)

    def test_only_the_operations_are_compared(self):
        first, second = undone_session(OPERATIONS, 2), session_after(OPERATIONS[:-2])
        second.run_limit = 3
        self.assertTrue(first == second)
        one = session_after([("class", "a", ()), ("class", "b", ())])
        other = session_after([("class", "b", ()), ("class", "a", ())])
        self.assertTrue(one != other)
        # The same dispatcher, by other operations.
        other = session_after([("class", "a", ()), ("class", "b", ()), ("class", "c", ()), ("remove", "c")])
        self.assertEqual(one.dispatcher(), other.dispatcher())
        self.assertTrue(one != other)

    def test_values_of_other_kinds(self):
        session = Session()
        for value in support.NO_CLASSES + (session.dispatcher(), Session, [], ""):
            self.assertIs(session == value, False)
            self.assertIs(value == session, False)
            self.assertIs(session != value, True)
        self.assertIs(session_after(OPERATIONS) == OPERATIONS, False)

    def test_properties_cannot_be_set(self):
        session = Session()
        for name in ("can_undo", "can_redo"):
            with self.assertRaises(AttributeError):
                setattr(session, name, True)


class CloneTest(SessionCase):
    def test_equal_with_what_can_be_redone(self):
        for undone in range(len(OPERATIONS) + 1):
            session = undone_session(OPERATIONS, undone)
            session.run_limit = undone
            copy = session.clone()
            self.assertIs(type(copy), Session)
            self.assertEqual(copy, session)
            self.assertEqual(state_of(copy), state_of(session))
            self.assert_same(copy.run_limit, undone)
            for _ in range(undone):
                copy.redo()
            self.assertEqual(copy, session_after(OPERATIONS))
            self.assert_same(len(session), len(OPERATIONS) - undone)

    def test_independent(self):
        edits = [
            lambda session: session.undo(),
            lambda session: session.redo(),
            lambda session: session.perform(("class", "cube", ())),
            lambda session: session.perform_all([("class", "cube", ()), ("reduce", "show")]),
            lambda session: session.perform(("define", "show", ("thing",), B)),
            lambda session: setattr(session, "run_limit", 9),
        ]
        for edit in edits:
            session = undone_session(OPERATIONS, 2)
            before = state_of(session)
            copy = session.clone()
            edit(copy)
            self.assertEqual(state_of(session), before)
            self.assertNotEqual(state_of(copy), before)
            copy = session.clone()
            edit(session)
            self.assertEqual(state_of(copy), before)
            self.assertNotEqual(state_of(session), before)


class RunTest(SessionCase):
    def test_the_limit_at_its_edges(self):
        session = session_after(OPERATIONS)
        for value in (0, 1, 199, 200):
            session.run_limit = value
            self.assert_same(session.run_limit, value)
            self.assert_same(session.clone().run_limit, value)
        self.assert_same(Session().run_limit, 200)

    def test_values_that_are_no_limits(self):
        session = undone_session(OPERATIONS, 1)
        session.run_limit = 5
        before = state_of(session)
        for value in NO_LIMITS:
            with self.subTest(value=value):
                self.assert_error(InvalidLimit, {"value": value}, setattr, session, "run_limit", value)
                self.assert_same(session.run_limit, 5)
        self.assertEqual(state_of(session), before)

    def test_it_is_no_operation(self):
        session = undone_session(OPERATIONS, 1)
        text = str(session)
        session.run_limit = 0
        self.assert_same(str(session), text)
        self.assert_same(len(session), len(OPERATIONS) - 1)
        self.assertIs(session.can_redo, True)
        session.redo()
        session.undo()
        session.perform(("class", "cube", ()))
        session.perform_all([("class", "die", ())])
        self.assert_same(session.run_limit, 0)

    def test_run(self):
        session = session_after(OPERATIONS)
        self.assert_same(session.run("show", ("solid",)), ["a", "b"])
        self.assert_same(session.run(point=("thing",), function="show"), ["a"])
        session.run_limit = 1
        self.assert_error(TooManySteps, {"limit": 1}, session.run, "show", ("solid",))
        self.assert_same(session.run("show", ("thing",)), ["a"])
        session.run_limit = 2
        self.assert_same(session.run("show", ("solid",)), ["a", "b"])
        session.run_limit = 0
        self.assert_error(TooManySteps, {"limit": 0}, session.run, "show", ("thing",))

    def test_run_after_undo_and_redo(self):
        session = session_after([*OPERATIONS, ("define", "show", ("thing",), B)])
        self.assert_same(session.run("show", ("thing",)), ["b"])
        session.undo()
        self.assert_same(session.run("show", ("thing",)), ["a"])
        session.redo()
        self.assert_same(session.run("show", ("thing",)), ["b"])

    def test_errors(self):
        session = session_after(OPERATIONS)
        before = state_of(session)
        for value in support.NO_CLASSES:
            self.assert_error(NotFound, {"value": value}, session.run, value, None)
        for function, point in (
            ("show", None), ("show", ("ball",)), ("show", ["ball"]), ("mark", ("thing", "thing")), ("mark", ("ball", "ball")),
            ("mark", ("thing",)), ("show", ("none",)), ("none", ("thing",)),
        ):
            wanted = support.outcome_of(run, session.dispatcher(), function, point)
            self.assertNotEqual(wanted[0], "result")
            self.assertEqual(support.outcome_of(session.run, function, point), wanted)
        self.assertEqual(state_of(session), before)

    def test_samples(self):
        source = random.Random(923)
        for _ in range(20):
            session = Session()
            for _ in range(40):
                support.outcome_of(session.perform, sample_operation(source, session.dispatcher()))
            for limit in (0, 1, 3, 200):
                session.run_limit = limit
                dispatcher = session.dispatcher()
                for function in dispatcher.functions():
                    for point in support.every_point(dispatcher.table(function))[:60]:
                        wanted = support.outcome_of(run, dispatcher, function, point, limit=limit)
                        self.assertEqual(support.outcome_of(session.run, function, point), wanted)


if __name__ == "__main__":
    unittest.main()
