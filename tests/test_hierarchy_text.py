"""Texts of hierarchies, point [7]."""

import itertools
import unittest

import support
from fewestmethods.errors import InvalidText
from fewestmethods.hierarchy import Hierarchy

LINES = ["class a", "class b a", "class c", "class d c b", "class e a d"]

# None of these can be a line behind the classes a to e, nor at an earlier index.
WRONG_LINES = [
    "",
    " ",
    "class",
    "class ",
    "class  x",
    " class x",
    "class x ",
    "class x  ",
    "class\tx",
    "classx",
    "Class x",
    "klass x",
    "x",
    "x class",
    "method x",
    "class X",
    "class x1",
    "class abcdefghi",
    "class x.",
    "class x y",
    "class x x",
    "class x class",
    "class x X",
]


def text_of(lines):
    return "".join([line + "\n" for line in lines])


class TextTest(support.Case):
    def assert_line(self, line, text):
        with self.subTest(text=text):
            self.assert_error(InvalidText, {"line": line}, Hierarchy.read, text)
            self.assert_error(InvalidText, {"line": line}, Hierarchy.read, text=text)

    def assert_wrong_at(self, at, line):
        """The line is wrong at this index, whatever stands behind it."""
        self.assert_line(at + 1, text_of(LINES[:at] + [line] + LINES[at + 1:]))
        self.assert_line(at + 1, text_of(LINES[:at] + [line]))
        self.assert_line(at + 1, text_of(LINES[:at] + [line, "???", ""]))

    def test_text(self):
        made = Hierarchy([("a", ()), ("b", ("a",)), ("c", ()), ("d", ("c", "b")), ("e", ("a", "d"))])
        self.assertEqual(str(made), text_of(LINES))
        self.assertEqual(str(Hierarchy()), "")
        self.assertEqual(str(Hierarchy.of(ball=())), "class ball\n")

    def test_read_gives_the_classes_in_sequence(self):
        made = Hierarchy.read(text_of(LINES))
        self.assertIsInstance(made, Hierarchy)
        self.assertEqual(made.names(), ["a", "b", "c", "d", "e"])
        self.assert_same(made.superclasses("d"), ("c", "b"))
        self.assertEqual(made.ancestors("e"), ["a", "b", "c", "d", "e"])

    def test_read_of_str(self):
        made = support.hierarchies_of(("x", "class", "a", "abcdefgh"))
        made += [Hierarchy(support.KINDS), Hierarchy(support.WIDE)]
        for one in made:
            self.assertEqual(Hierarchy.read(str(one)), one)
            self.assertEqual(str(Hierarchy.read(str(one))), str(one))

    def test_the_empty_text(self):
        self.assertEqual(Hierarchy.read(""), Hierarchy())
        self.assertEqual(Hierarchy.read(text="").names(), [])

    def test_values_that_are_not_strings(self):
        for value in support.STRANGE + support.NUMBERS + support.LISTS + support.TUPLES + (b"", b"class a\n"):
            self.assert_line(0, value)

    def test_twenty_and_twenty_one_lines(self):
        lines = ["class " + letter for letter in support.TWENTY]
        self.assertEqual(Hierarchy.read(text_of(lines)).names(), list(support.TWENTY))
        for more in (["class x"], ["class x a"], ["class x", "class y"], ["class a"], ["?"], ["", ""]):
            self.assert_line(21, text_of(lines + more))
        self.assert_line(21, text_of(lines) + "class x")
        self.assert_line(20, text_of(lines)[:-1])
        self.assert_line(3, text_of(lines[:2] + ["?"] + lines[2:]))

    def test_a_last_line_without_a_line_feed(self):
        for at, line in enumerate(LINES):
            before = text_of(LINES[:at])
            for end in range(1, len(line) + 1):
                self.assert_line(at + 1, before + line[:end])
        self.assert_line(1, "c")
        self.assert_line(6, text_of(LINES) + " ")
        self.assert_line(2, "class a\nclass b x\nclass c")
        self.assert_line(1, "x\nclass c")

    def test_wrong_lines_first_in_the_middle_and_last(self):
        for at, line in itertools.product((0, 2, len(LINES) - 1), WRONG_LINES):
            self.assert_wrong_at(at, line)

    def test_spaces_between_superclasses(self):
        for line in ("class x  a", "class x a ", "class x a  b", "class x a b ", " class x a", "class  x a", "class x a,b"):
            for at in (2, 4):
                self.assert_wrong_at(at, line)

    def test_repeated_names(self):
        self.assert_wrong_at(1, "class a")
        self.assert_wrong_at(2, "class b a")
        self.assert_wrong_at(4, "class a")
        self.assert_wrong_at(4, "class d")

    def test_superclasses_that_are_unknown_or_stand_later(self):
        self.assert_wrong_at(0, "class a a")
        self.assert_wrong_at(0, "class a b")
        self.assert_wrong_at(1, "class b c")
        self.assert_wrong_at(2, "class c a d")
        self.assert_wrong_at(4, "class e a e")
        self.assert_wrong_at(4, "class e x a")

    def test_repeated_superclasses(self):
        self.assert_wrong_at(1, "class b a a")
        self.assert_wrong_at(2, "class c a b a")
        self.assert_wrong_at(4, "class e d d")

    def test_empty_lines(self):
        self.assert_line(1, "\n")
        self.assert_line(1, "\nclass a\n")
        self.assert_line(2, "class a\n\n")
        self.assert_line(2, "class a\n\nclass b\n")
        self.assert_line(3, "class a\nclass b\n\n\n")

    def test_the_first_wrong_line_decides(self):
        self.assert_line(2, "class a\nclass b x\nclass a\n")
        self.assert_line(2, "class a\nclass a\nclass b x\n")
        self.assert_line(1, "class a b\nclass b a\n")

    def test_many_lines(self):
        self.assert_line(21, text_of(["class " + first + second for first in "abcdef" for second in support.TWENTY]))
        self.assert_line(1, "\n" * 20000)


if __name__ == "__main__":
    unittest.main()
