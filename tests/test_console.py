"""The console and its commands, point [31]."""

import random
import string
import unittest

import support
from fewestmethods.calls import rivals
from fewestmethods.conflicts import conflicts
from fewestmethods.console import Console
from fewestmethods.errors import InvalidCommand
from fewestmethods.errors import InvalidLimit
from fewestmethods.errors import NothingToRedo
from fewestmethods.errors import NothingToUndo
from fewestmethods.operations import read_operation
from fewestmethods.operations import write_operation
from fewestmethods.reduction import reason
from fewestmethods.reduction import redundant_points
from fewestmethods.sessions import Session
from fewestmethods.threats import threats
from session_support import OPERATIONS
from session_support import sample_operation
from session_support import session_after
from session_support import state_of

TEXT = str(session_after(OPERATIONS))
RESULTS = ["ok"] * 8 + ["1", "ok", "ok", "2", "ended 1"]


def console_after(text):
    console = Console()
    for line in text.split("\n")[:-1]:
        console.execute(line)
    return console


class ConsoleCase(support.Case):
    def setUp(self):
        self.console = console_after(TEXT)

    def assert_shows(self, *wanted):
        """Each command, in this order, has its result."""
        for command, result in wanted:
            with self.subTest(command=command):
                self.assert_same(self.console.execute(command), result)

    def assert_refused(self, name, attributes, command):
        """The error, and the session is as before."""
        before = state_of(self.console.session())
        with self.subTest(command=command):
            self.assertEqual(support.outcome_of(self.console.execute, command), (name, attributes))
            self.assertEqual(state_of(self.console.session()), before)


class OperationsTest(ConsoleCase):
    def test_results(self):
        console = Console()
        for operation, wanted in zip(OPERATIONS, RESULTS):
            self.assert_same(console.execute(command=write_operation(operation)), wanted)
        self.assertEqual(console.session(), session_after(OPERATIONS))

    def test_class_and_remove(self):
        self.assert_shows(("class cube", "ok"), ("class die cube ball", "ok"), ("remove die", "ok"), ("remove cube", "ok"))

    def test_ended_with_numbers(self):
        self.assert_shows(
            ("watch show thing", "3"), ("watch show thing", "4"), ("sites", "2 3 4"),
            ("define show shape -", "ended 2"), ("define show thing say z", "ended 3 4"), ("sites", "-"),
            ("watch show thing", "5"), ("define show solid -", "ok"), ("drop show shape", "ok"),
            ("drop show thing", "ended 5"),
        )

    def test_a_class_ends_sites(self):
        self.assert_shows(
            ("function f 1", "ok"), ("class a", "ok"), ("class b", "ok"), ("define f a say a", "ok"),
            ("define f b say b", "ok"), ("watch f a", "3"), ("watch f b", "4"), ("class c a", "ok"),
            ("class d a b", "ended 3 4"), ("remove d", "ok"), ("define f c say a", "ok"), ("watch f a", "5"),
            ("watch f c", "6"), ("drop f c", "ok"), ("remove c", "ended 5 6"), ("sites", "2"),
        )

    def test_reduce(self):
        self.assert_shows(
            ("reduce mark", "-"), ("reduce show", "shape"), ("reduce show", "-"), ("define mark ball,ball say a", "ok"),
            ("define mark ball,solid next", "ok"), ("define show shape next", "ok"), ("define show ball -", "ok"),
            ("reduce show", "shape"), ("reduce mark", "ball,solid"),
        )
        self.assert_shows(
            ("function f 1", "ok"), ("define f ball -", "ok"), ("define f shape -", "ok"), ("define f thing -", "ok"),
            ("reduce f", "shape ball"),
        )

    def test_decide(self):
        self.assert_shows(("decide mark ball,ball -", "-"), ("decide show ball say a; say b", "-"), ("conflicts mark", "-"))
        self.console = console_after(
            "class a\nclass b\nclass c a b\nclass d a b\nclass m c d\nclass n c d\nclass o c d\nfunction f 2\n"
            "define f a,a say one\ndefine f b,a say two\ndefine f d,a say three\ndefine f o,a next\n"
        )
        self.assert_shows(("decide f c,a -", "m,a n,a"), ("methods f", "a,a b,a c,a d,a m,a n,a o,a"))
        self.assert_shows(("call f o,a", "say three"), ("call f c,m", "-"))
        self.assert_refused("NotAConflict", {"point": ("c", "a")}, "decide f c,a -")

    def test_watch(self):
        self.assert_shows(("watch show thing", "3"), ("watch show thing", "4"), ("undo", "14"), ("sites", "2 3"))
        self.assert_shows(("watch show thing", "4"), ("define show thing -", "ended 2 3 4"), ("watch show thing", "5"))


class QueriesTest(ConsoleCase):
    def test_undo_and_redo(self):
        self.assert_shows(("undo", "12"), ("undo", "11"), ("redo", "12"), ("redo", "13"))
        for size in range(12, -1, -1):
            self.assert_shows(("undo", str(size)))
        self.assert_refused("NothingToUndo", {}, "undo")
        for size in range(1, 14):
            self.assert_shows(("redo", str(size)))
        self.assert_refused("NothingToRedo", {}, "redo")
        self.assertEqual(self.console.session(), session_after(OPERATIONS))

    def test_at_the_beginning(self):
        self.console = Console()
        self.assert_error(NothingToUndo, {}, self.console.execute, "undo")
        self.assert_error(NothingToRedo, {}, self.console.execute, "redo")
        self.assert_shows(("classes", "-"), ("functions", "-"), ("sites", "-"))

    def test_names_and_numbers(self):
        self.assert_shows(("classes", "thing shape solid ball"), ("functions", "show mark"), ("sites", "2"))
        self.assert_shows(("watch show thing", "3"), ("sites", "2 3"))
        self.console = console_after("class a\nfunction f 1\n")
        self.assert_shows(("classes", "a"), ("functions", "f"), ("sites", "-"), ("methods f", "-"))

    def test_call(self):
        self.assert_shows(("call show thing", "say a"), ("call show solid", "say a; say b"))
        self.assert_shows(("define show thing -", "ended 2"), ("call show thing", "-"), ("call show shape", "say a"))
        self.assert_shows(("define show thing call mark 0,ball; call show solid", "ok"))
        self.assert_shows(("call show solid", "call mark 0,ball; call show solid; say b"))
        self.assert_shows(("call mark shape,ball", "say a"))

    def test_rivals(self):
        self.assert_shows(("rivals show ball", "shape solid"), ("rivals show thing", "thing"), ("rivals mark thing,thing", "-"))
        self.assert_shows(("rivals mark ball,ball", "thing,ball ball,thing"), ("rivals mark solid,ball", "thing,ball"))

    def test_reason(self):
        self.assert_shows(
            ("reason show thing", "top"), ("reason show shape", "redundant"), ("reason show solid", "differs thing"),
            ("define show ball -", "ok"), ("reason show ball", "split shape solid"), ("reason mark ball,thing", "top"),
            ("define mark ball,ball say a", "ok"), ("reason mark ball,ball", "split thing,ball ball,thing"),
            ("define mark ball,solid next; say a", "ok"), ("reason mark ball,solid", "differs ball,thing"),
        )

    def test_methods(self):
        self.assert_shows(("methods show", "thing shape solid"), ("methods mark", "thing,ball ball,thing"))
        self.assert_shows(("function f 3", "ok"), ("methods f", "-"), ("define f ball,thing,solid -", "ok"))
        self.assert_shows(("methods f", "ball,thing,solid"))

    def test_redundant(self):
        self.assert_shows(("redundant show", "shape"), ("redundant mark", "-"), ("define show ball say a; say b", "ok"))
        self.assert_shows(("redundant show", "shape"), ("reduce show", "shape ball"), ("redundant show", "-"))
        self.assert_shows(("define show ball next", "ok"), ("redundant show", "ball"), ("define show ball -", "ok"))
        self.assert_shows(("define show shape next", "ok"), ("class cube thing", "ok"), ("define show cube say a", "ok"))
        self.assert_shows(("redundant show", "shape cube"))

    def test_conflicts(self):
        self.assert_shows(("conflicts show", "ball"), ("conflicts mark", "ball,ball"), ("class cube shape solid", "ok"))
        self.assert_shows(("conflicts show", "ball cube"), ("reduce show", "shape"), ("conflicts show", "-"))

    def test_threats(self):
        self.assert_shows(("threats show", "shape/solid"), ("threats mark", "thing,ball/ball,thing"))
        self.assert_shows(("reduce show", "shape"), ("threats show", "-"), ("class x", "ok"), ("class y", "ok"))
        self.assert_shows(("define show x -", "ok"), ("define show y say y", "ok"))
        self.assert_shows(("threats show", "thing/x thing/y solid/x solid/y x/y"))

    def test_run(self):
        self.assert_shows(("run show thing", "a"), ("run show solid", "a b"), ("define show thing -", "ended 2"))
        self.assert_shows(("run show thing", "-"), ("define show thing call show solid; say c", "ok"))
        self.assert_refused("TooManySteps", {"limit": 200}, "run show thing")
        self.assert_shows(("define show solid call mark 0,ball; say b", "ok"), ("run show thing", "a b c"))

    def test_samples(self):
        source = random.Random(941)
        for _ in range(30):
            console = Console()
            for _ in range(40):
                support.outcome_of(console.execute, write_operation(sample_operation(source, console.session().dispatcher())))
            dispatcher = console.session().dispatcher()
            self.assertEqual(console.execute("classes"), " ".join(dispatcher.hierarchy().names()) or "-")
            self.assertEqual(console.execute("functions"), " ".join(dispatcher.functions()) or "-")
            self.assertEqual(console.execute("sites"), " ".join(str(one) for one in dispatcher.sites()) or "-")
            for name in dispatcher.functions():
                self.assert_queries(console, name, dispatcher.table(name))

    def assert_queries(self, console, name, table):
        def shown(points):
            return " ".join(",".join(point) for point in points) or "-"

        self.assertEqual(console.execute(f"methods {name}"), shown(table.points()))
        self.assertEqual(console.execute(f"redundant {name}"), shown(redundant_points(table)))
        self.assertEqual(console.execute(f"conflicts {name}"), shown(conflicts(table)))
        pairs = [f"{','.join(first)}/{','.join(second)}" for first, second in threats(table)]
        self.assertEqual(console.execute(f"threats {name}"), " ".join(pairs) or "-")
        for point in table.points():
            found = reason(table, point)
            wanted = "redundant" if found is None else " ".join([found[0], *[",".join(one) for one in found[1:]]])
            self.assertEqual(console.execute(f"reason {name} {','.join(point)}"), wanted)
        session = console.session()
        for point in support.every_point(table)[:40]:
            self.assertEqual(console.execute(f"rivals {name} {','.join(point)}"), shown(rivals(table, point)))
            word, words = support.outcome_of(session.run, name, point)
            wanted = (word, " ".join(words) or "-") if word == "result" else (word, words)
            self.assertEqual(support.outcome_of(console.execute, f"run {name} {','.join(point)}"), wanted)
            word, steps = support.outcome_of(session.dispatcher().call, name, point)
            found = support.outcome_of(console.execute, f"call {name} {','.join(point)}")
            if word == "result":
                text = write_operation(("define", "f", ("a",), steps)).split(" ", 3)[3]
                self.assertEqual(found, (word, text))
            else:
                self.assertEqual(found, (word, steps))


class LimitTest(ConsoleCase):
    def test_set(self):
        for number in (0, 1, 9, 10, 100, 199, 200):
            self.assert_shows((f"limit {number}", "ok"))
            self.assert_same(self.console.session().run_limit, number)

    def test_the_limit_of_runs(self):
        self.assert_shows(("limit 1", "ok"), ("run show thing", "a"))
        self.assert_refused("TooManySteps", {"limit": 1}, "run show solid")
        self.assert_shows(("limit 2", "ok"), ("run show solid", "a b"), ("limit 0", "ok"))
        self.assert_refused("TooManySteps", {"limit": 0}, "run show thing")

    def test_it_is_no_operation(self):
        self.assert_shows(("undo", "12"), ("limit 3", "ok"), ("redo", "13"), ("undo", "12"))
        self.assert_same(self.console.session().run_limit, 3)
        self.assertEqual(self.console.session(), session_after(OPERATIONS[:-1]))

    def test_numbers_that_are_no_limits(self):
        self.console.execute("limit 7")
        for number in (201, 999, 10**39, 10**40 - 1, 10**59):
            command = f"limit {number}"
            self.assert_error(InvalidLimit, {"value": number}, self.console.execute, command)
            self.assert_refused("InvalidLimit", {"value": number}, command)
            self.assert_same(self.console.session().run_limit, 7)

    def test_strings_that_are_no_numbers(self):
        for text in (
            "limit", "limit ", "limit  1", "limit 1 ", " limit 1", "limit +1", "limit -1", "limit -0", "limit 01", "limit 00",
            "limit 007", "limit 1 2", "limit 1,2", "limit 1.", "limit a", "limit -", "limit 1a", "limit a1", "limit 1\n",
            "limit 1_0", "limit 0x1", "limit one", "Limit 1", "limits 1", "limit\n1", "limit 0200",
        ):
            self.assert_refused("InvalidCommand", {"value": text}, text)
        for letter in string.ascii_letters + string.punctuation.replace("%", "") + " \n":
            for text in (f"limit {letter}", f"limit 1{letter}", f"limit {letter}1"):
                self.assert_error(InvalidCommand, {"value": text}, self.console.execute, text)
        self.assert_same(self.console.session().run_limit, 200)


class InvalidCommandTest(ConsoleCase):
    COMMANDS = (
        "undo", "redo", "classes", "functions", "sites", "call show thing", "rivals mark ball,ball", "reason show solid",
        "methods show", "redundant show", "conflicts show", "threats show", "run show solid", "limit 200", "class cube solid",
        "remove ball", "function hide 3", "define show ball say x; next", "drop show solid", "decide mark ball,ball -",
        "reduce show", "watch show solid",
    )

    def is_command(self, text):
        """Point [31], but for the written forms of operations, which have tests of their own."""
        word, *parts = text.split(" ")
        if word in ("undo", "redo", "classes", "functions", "sites"):
            return parts == []
        if word == "limit":
            return len(parts) == 1 and parts[0].isdigit() and str(int(parts[0])) == parts[0]
        if word in ("methods", "redundant", "conflicts", "threats"):
            return len(parts) == 1 and is_name(parts[0])
        if word in ("call", "rivals", "reason", "run"):
            return len(parts) == 2 and is_name(parts[0]) and is_written_point(parts[1])
        return support.outcome_of(read_operation, text)[0] == "result"

    def test_one_character_more_less_or_other(self):
        for command in self.COMMANDS:
            for at in range(len(command) + 1):
                texts = [command[:at] + command[at + 1:]]
                for letter in " ,;-/.\n0aZ":
                    texts += [command[:at] + letter + command[at:], command[:at] + letter + command[at + 1:]]
                for text in texts:
                    console = console_after(TEXT)
                    word, attributes = support.outcome_of(console.execute, text)
                    with self.subTest(text=text):
                        self.assertIs(word == "InvalidCommand", not self.is_command(text))
                        if word == "InvalidCommand":
                            self.assertEqual(attributes, {"value": text})

    def test_by_hand(self):
        for text in (
            "", " ", "\n", "undo ", " undo", "Undo", "undo 1", "undo\n", "redo ", "undo redo", "classes ", "classes a", "class",
            "functions f", "sites 1", "site 1", "call", "call show", "call show ", "call show thing ", "call  show thing",
            "call show  thing", "call show thing thing", "call show a,b,c,d", "call show ,", "call show a,", "call show Ball",
            "call Show thing", "call show -", "call abcdefghi thing", "call show abcdefghi", "rivals show", "rivals thing",
            "reason show", "reason", "methods", "methods ", "methods show mark", "methods show thing", "methods Show",
            "redundant", "conflicts", "conflicts -", "threats", "threats show/mark", "run", "run show", "run show 0",
            "run show thing 3", "limit", "help", "quit", "settle show", "status show thing", "class A", "function f 4",
            "define show thing", "define show thing next; next", "decide mark ball,ball", "watch show", "reduce", "drop show",
            "class a\nclass b", "undo; redo", "-", "say a", "next", "ok",
        ):
            self.assert_refused("InvalidCommand", {"value": text}, text)

    def test_values_of_any_kind(self):
        values = support.STRANGE + support.NUMBERS + support.LISTS + support.TUPLES
        for value in values + (b"undo", ["undo"], ("undo",), ("class", "a", ()), Session()):
            with self.subTest(value=value):
                self.assert_error(InvalidCommand, {"value": value}, self.console.execute, value)
        self.assertEqual(self.console.session(), session_after(OPERATIONS))


def is_name(text):
    return 1 <= len(text) <= 8 and set(text) <= set("abcdefghijklmnopqrstuvwxyz")


def is_written_point(text):
    return 1 <= len(text.split(",")) <= 3 and all(is_name(name) for name in text.split(","))


class ErrorsTest(ConsoleCase):
    def test_of_queries(self):
        for word in ("methods", "redundant", "conflicts", "threats"):
            self.assert_refused("NotFound", {"value": "none"}, f"{word} none")
            self.assert_refused("NotFound", {"value": "thing"}, f"{word} thing")
        for word in ("call", "rivals", "reason", "run"):
            self.assert_refused("NotFound", {"value": "none"}, f"{word} none thing")
            self.assert_refused("NotFound", {"value": "none"}, f"{word} none none")
        for word in ("call", "rivals", "run"):
            self.assert_refused("InvalidPoint", {"value": ("none",)}, f"{word} show none")
            self.assert_refused("InvalidPoint", {"value": ("ball", "ball")}, f"{word} show ball,ball")
            self.assert_refused("InvalidPoint", {"value": ("ball",)}, f"{word} mark ball")
        for point in ("none", "ball", "thing,thing"):
            self.assert_refused("NotFound", {"value": tuple(point.split(","))}, f"reason show {point}")
        for word in ("call", "run"):
            self.assert_refused("NoMethod", {"point": ("thing", "thing")}, f"{word} mark thing,thing")
            wanted = {"point": ("ball",), "rivals": [("shape",), ("solid",)]}
            self.assert_refused("Ambiguous", wanted, f"{word} show ball")

    def test_of_operations(self):
        for command, name, attributes in (
            ("class ball", "NameTaken", {"value": "ball"}),
            ("class cube none", "InvalidSuperclasses", {"value": ("none",)}),
            ("class cube ball ball", "InvalidSuperclasses", {"value": ("ball", "ball")}),
            ("remove none", "NotFound", {"value": "none"}),
            ("remove thing", "InUse", {"value": "shape"}),
            ("remove ball", "InUse", {"value": "mark"}),
            ("function show 2", "NameTaken", {"value": "show"}),
            ("define none thing -", "NotFound", {"value": "none"}),
            ("define show none -", "InvalidPoint", {"value": ("none",)}),
            ("define show thing call f 1", "InvalidBody", {"value": (("call", "f", (1,)),)}),
            ("define show thing next", "NoNext", {"point": ("thing",)}),
            ("drop show ball", "NotFound", {"value": ("ball",)}),
            ("drop show thing", "NoNext", {"point": ("solid",)}),
            ("decide mark thing,thing -", "NotAConflict", {"point": ("thing", "thing")}),
            ("decide mark ball,ball next", "InvalidBody", {"value": (("next",),)}),
            ("reduce none", "NotFound", {"value": "none"}),
            ("watch mark thing,ball", "Unsettled", {"point": ("ball", "ball")}),
            ("watch mark thing,thing", "NoMethod", {"point": ("thing", "thing")}),
        ):
            self.assert_refused(name, attributes, command)

    def test_an_error_leaves_what_can_be_redone(self):
        self.console.execute("undo")
        for command in ("class ball", "class", "run show none", "limit 201", "undo "):
            self.assertNotEqual(support.outcome_of(self.console.execute, command)[0], "result")
        self.assert_shows(("classes", "thing shape solid ball"), ("limit 200", "ok"), ("redo", "13"))


class SessionTest(ConsoleCase):
    def test_an_independent_copy(self):
        session = self.console.session()
        self.assertIs(type(session), Session)
        self.assertEqual(state_of(session), state_of(session_after(OPERATIONS)))
        session.perform(("class", "cube", ()))
        session.run_limit = 1
        session.undo()
        session.undo()
        self.assertEqual(state_of(self.console.session()), state_of(session_after(OPERATIONS)))
        session = self.console.session()
        self.assert_shows(("class cube", "ok"), ("limit 5", "ok"), ("undo", "13"))
        self.assertEqual(state_of(session), state_of(session_after(OPERATIONS)))
        later = self.console.session()
        self.assertIs(later.can_redo, True)
        self.assert_same(later.run_limit, 5)

    def test_consoles_are_independent(self):
        other = Console()
        self.assert_same(other.execute("classes"), "-")
        other.execute("class a")
        self.assert_same(self.console.execute("classes"), "thing shape solid ball")

    def test_the_text_of_the_session_makes_the_same_console(self):
        self.assertEqual(str(self.console.session()), TEXT)
        self.assertEqual(Session.read(TEXT), self.console.session())


if __name__ == "__main__":
    unittest.main()
