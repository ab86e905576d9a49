"""Names, point [2]."""

import string
import unittest

import support
from fewestmethods.names import is_name


class NamesTest(support.Case):
    def assert_name(self, value, wanted):
        with self.subTest(value=value):
            self.assertIs(is_name(value), wanted)

    def test_lengths(self):
        for length, wanted in ((0, False), (1, True), (2, True), (7, True), (8, True), (9, False), (40, False)):
            self.assert_name("q" * length, wanted)

    def test_every_letter_alone_and_at_each_place(self):
        for letter in string.ascii_lowercase:
            self.assert_name(letter, True)
            self.assert_name("ab" + letter, True)
            self.assert_name(letter + "abcdefg", True)
        self.assert_name("azazazaz", True)

    def test_other_characters_at_each_place(self):
        for letter in [chr(code) for code in range(ord(" "), ord("~") + 1)] + ["\n"]:
            wanted = letter in string.ascii_lowercase
            for value in (letter, letter + "bc", "b" + letter + "c", "bc" + letter):
                self.assert_name(value, wanted)

    def test_line_feed_at_the_end(self):
        self.assert_name("ball\n", False)
        self.assert_name("\n", False)
        self.assert_name("abcdefg\n", False)

    def test_parts_of_the_alphabet_are_ordinary_names(self):
        self.assert_name("abcdefgh", True)
        self.assert_name("abcdefghi", False)
        self.assert_name("ba", True)

    def test_values_of_every_other_kind(self):
        for value in support.STRANGE + support.NUMBERS + support.LISTS + support.TUPLES:
            self.assert_name(value, False)
        for value in (["b", "a"], ("b",), {"b": "a"}, b"ball", [[]], bytearray(b"a"), range(3)):
            self.assert_name(value, False)

    def test_argument_by_name(self):
        self.assertIs(is_name(value="ball"), True)
        self.assertIs(is_name(value=None), False)


if __name__ == "__main__":
    unittest.main()
