"""The texts of sessions, point [30]."""

import random
import unittest

import support
from fewestmethods.errors import InvalidText
from fewestmethods.operations import write_operation
from fewestmethods.sessions import Session
from session_support import OPERATIONS
from session_support import dispatcher_after
from session_support import next_number
from session_support import sample_operation
from session_support import session_after
from session_support import state_of

TEXT = """class thing
class shape thing
class solid thing
class ball shape solid
function show 1
function mark 2
define show thing say a
define show solid next; say b
watch show ball
define mark thing,ball say a
define mark ball,thing say b
watch show shape
define show shape say a
"""
LINES = TEXT.split("\n")[:-1]
# Written forms whose operations raise an error after OPERATIONS, each with another one.
REFUSED = [
    "class ball", "class cube none", "class cube ball ball", "remove none", "remove thing", "remove ball",
    "function show 1", "define none ball say a", "define show none say a", "define show ball call f 1",
    "define show thing next", "define show ball next", "drop show ball", "drop show thing", "decide mark thing,thing -",
    "decide mark ball,ball next", "reduce none", "watch none ball", "watch mark thing,thing", "watch mark ball,ball",
    "watch mark thing,ball", "decide show thing,thing -",
]
NO_FORMS = [
    "", " ", "class", "class  cube", "class cube ", " class cube", "Class cube", "undo", "redo", "limit 3", "classes",
    "call show ball", "function f 4", "define show ball", "define show ball say x;say y", "say x", "-", "reduce show ",
]


def sample_sessions(seed, amount, size):
    source = random.Random(seed)
    found = []
    for _ in range(amount):
        session = Session()
        for _ in range(size):
            support.outcome_of(session.perform, sample_operation(source, session.dispatcher()))
            if source.random() < 0.1:
                support.outcome_of(session.undo)
        found.append(session)
    return found


class TextCase(support.Case):
    def assert_wrong(self, line, text):
        self.assert_raises(InvalidText, line, Session.read, text)


class StrTest(TextCase):
    def test_by_hand(self):
        self.assert_same(str(session_after(OPERATIONS)), TEXT)
        self.assert_same(str(Session()), "")

    def test_lines_are_written_forms(self):
        for session in sample_sessions(931, 20, 40):
            wanted = "".join(write_operation(operation) + "\n" for operation in session.operations())
            self.assert_same(str(session), wanted)

    def test_undone_operations_do_not_count(self):
        session = session_after(OPERATIONS)
        for size in range(len(LINES) - 1, -1, -1):
            session.undo()
            self.assert_same(str(session), "".join(line + "\n" for line in LINES[:size]))
        session.redo()
        self.assert_same(str(session), "class thing\n")


class ReadTest(TextCase):
    def test_every_beginning_of_whole_lines(self):
        for size in range(len(LINES) + 1):
            text = "".join(line + "\n" for line in LINES[:size])
            session = Session.read(text)
            self.assertIs(type(session), Session)
            self.assert_same(session.operations(), OPERATIONS[:size])
            self.assertEqual(state_of(session), state_of(session_after(OPERATIONS[:size])))
            self.assert_same(str(session), text)
            self.assertIs(session.can_redo, False)
            self.assertIs(session.can_undo, size > 0)
        self.assertEqual(Session.read(text=TEXT), Session.read(TEXT))

    def test_every_other_beginning(self):
        at = 0
        for number, line in enumerate(LINES, 1):
            for size in range(1, len(line) + 1):
                self.assert_wrong(number, TEXT[: at + size])
            at += len(line) + 1
        self.assertEqual(at, len(TEXT))

    def test_samples(self):
        for session in sample_sessions(932, 60, 50):
            again = Session.read(str(session))
            self.assertEqual(again, session)
            self.assertEqual(again.dispatcher(), session.dispatcher())
            self.assertEqual(next_number(again.dispatcher()), next_number(session.dispatcher()))
            self.assertEqual(again.dispatcher(), dispatcher_after(session.operations()))

    def test_a_session_that_was_read_goes_on(self):
        session = Session.read(TEXT)
        self.assert_same(session.undo(), len(LINES) - 1)
        self.assert_same(session.redo(), len(LINES))
        self.assert_same(session.perform(("watch", "show", ("thing",))), 3)
        self.assert_same(session.run_limit, 200)

    def test_read_off_an_object(self):
        session = Session.read(TEXT)
        self.assertEqual(session.read("class a\n").operations(), [("class", "a", ())])
        self.assert_same(len(session), len(LINES))


class WrongTest(TextCase):
    def test_a_line_that_is_no_written_form(self):
        for wrong in NO_FORMS:
            for at in (0, 1, 6, len(LINES) - 1, len(LINES)):
                lines = [*LINES[:at], wrong, *LINES[at:]]
                self.assert_wrong(at + 1, "".join(line + "\n" for line in lines))

    def test_a_line_whose_operation_raises_an_error(self):
        for wrong in REFUSED:
            self.assert_wrong(len(LINES) + 1, TEXT + wrong + "\n")
            self.assert_wrong(len(LINES) + 1, TEXT + wrong + "\nclass more\n")
            self.assert_wrong(len(LINES) + 1, TEXT + wrong + "\n\n")
        self.assert_wrong(1, "reduce show\n" + TEXT)
        self.assert_wrong(1, "watch show ball\n")
        self.assert_wrong(2, "class thing\n" + TEXT)
        self.assert_wrong(5, "".join(line + "\n" for line in LINES[:4] + LINES[:4]))
        self.assert_wrong(8, "".join(line + "\n" for line in LINES[:7] + LINES[:7]))

    def test_the_limits(self):
        letters = support.TWENTY
        text = "".join(f"class {letter}\n" for letter in letters) + "".join(f"function {one} 2\n" for one in "abcdefgh")
        self.assert_same(len(Session.read(text)), 28)
        self.assert_wrong(21, "".join(f"class {letter}\n" for letter in letters + "u"))
        self.assert_wrong(29, text + "class u\n")
        self.assert_wrong(29, text + "function i 1\n")
        text += "".join(f"define a {one},{two} -\n" for one in letters for two in "ab")
        self.assert_same(len(Session.read(text)), 68)
        self.assert_wrong(69, text + "define a a,c -\n")
        text += "watch a a,a\n" * 20
        self.assert_same(len(Session.read(text)), 88)
        self.assert_wrong(89, text + "watch a a,a\n")

    def test_without_the_last_line_feed(self):
        for size in range(1, len(LINES) + 1):
            text = "".join(line + "\n" for line in LINES[:size])
            self.assert_wrong(size, text[:-1])
            self.assert_wrong(size + 1, text + "class cube")
            self.assert_wrong(size + 1, text + " ")

    def test_line_feeds_too_many(self):
        self.assert_wrong(1, "\n")
        self.assert_wrong(1, "\n" + TEXT)
        self.assert_wrong(len(LINES) + 1, TEXT + "\n")
        self.assert_wrong(2, "class thing\n\nclass shape thing\n")

    def test_the_first_wrong_line_decides(self):
        self.assert_wrong(2, "class a\nclass a\nundo\nclass b")
        self.assert_wrong(2, "class a\nundo\nclass a\nclass b")
        self.assert_wrong(1, "undo\nclass a\nclass a\n")
        self.assert_wrong(2, "class a\nclass b c\nclass c")

    def test_values_that_are_no_strings(self):
        for value in support.STRANGE + support.NUMBERS + support.LISTS + support.TUPLES + (b"", LINES, Session()):
            self.assert_wrong(0, value)


if __name__ == "__main__":
    unittest.main()
