"""Operations, point [28], and their written forms, point [29]."""

import itertools
import random
import re
import string
import unittest

import support
from fewestmethods.errors import InvalidOperation
from fewestmethods.errors import InvalidText
from fewestmethods.operations import is_operation
from fewestmethods.operations import read_operation
from fewestmethods.operations import write_operation

A = (("say", "a"),)
LONGEST = "abcdefgh"

# Each operation with its written form, by hand.
WRITTEN = [
    (("class", "a", ()), "class a"),
    (("class", "a", ("b",)), "class a b"),
    (("class", LONGEST, ("b", "c", LONGEST)), "class abcdefgh b c abcdefgh"),
    (("class", "a", ("a", "a")), "class a a a"),
    (("class", "class", ("class",)), "class class class"),
    (("remove", "a"), "remove a"),
    (("remove", LONGEST), "remove abcdefgh"),
    (("function", "f", 1), "function f 1"),
    (("function", "f", 2), "function f 2"),
    (("function", LONGEST, 3), "function abcdefgh 3"),
    (("define", "f", ("a",), ()), "define f a -"),
    (("define", "f", ("a",), (("next",),)), "define f a next"),
    (("define", "f", ("a", "b"), (("say", "x"),)), "define f a,b say x"),
    (("define", "f", ("a", "b", LONGEST), (("say", LONGEST),)), "define f a,b,abcdefgh say abcdefgh"),
    (("define", "say", ("next",), (("say", "next"), ("say", "say"))), "define say next say next; say say"),
    (("define", "f", ("a",), (("call", "g", (0,)),)), "define f a call g 0"),
    (("define", "f", ("a",), (("call", "g", ("b",)),)), "define f a call g b"),
    (("define", "f", ("a",), (("call", "g", (2, "b", 1)),)), "define f a call g 2,b,1"),
    (("define", "f", ("a",), (("call", "call", ("call", "say", 0)),)), "define f a call call call,say,0"),
    (
        ("define", "f", ("a", "b"), (("say", "x"), ("next",), ("call", "g", (1, "a")))),
        "define f a,b say x; next; call g 1,a",
    ),
    (("drop", "f", ("a",)), "drop f a"),
    (("drop", LONGEST, ("a", "b", "c")), "drop abcdefgh a,b,c"),
    (("decide", "f", ("a", "a"), ()), "decide f a,a -"),
    (("decide", "f", ("a",), (("next",), ("say", "x"))), "decide f a next; say x"),
    (("reduce", "f"), "reduce f"),
    (("watch", "f", ("a",)), "watch f a"),
    (("watch", "f", ("c", "b", "a")), "watch f c,b,a"),
]

NAME = "[a-z]{1,8}"
POINT = f"{NAME}(,{NAME}){{0,2}}"
ITEM = f"({NAME}|[012])"
STEP = f"(say {NAME}|next|call {NAME} {ITEM}(,{ITEM}){{0,2}})"
BODY = f"(-|{STEP}(; {STEP})*)"
FORM = re.compile(
    f"class {NAME}( {NAME})*|(remove|reduce) {NAME}|function {NAME} [123]|(define|decide) {NAME} {POINT} {BODY}"
    f"|(drop|watch) {NAME} {POINT}"
)

NO_NAMES = support.STRANGE + support.NUMBERS + support.LISTS + support.TUPLES + tuple(support.STRINGS[:-1])
NO_STEPS = support.STRANGE + support.NUMBERS + support.LISTS + support.STRINGS + (
    (), ("say",), ("say", "A"), ("say", ""), ("say", "abcdefghi"), ("say", None), ("say", "a", "b"), ["say", "a"],
    ("next", "a"), ["next"], ("Next",), ("call", "f"), ("call", "f", ()), ("call", "f", ("a", "b", "c", "d")),
    ("call", "f", (3,)), ("call", "f", (-1,)), ("call", "f", (True,)), ("call", "f", (False,)), ("call", "f", ("0",)),
    ("call", "f", ["a"]), ["call", "f", ("a",)], ("call", "F", ("a",)), ("call", None, ("a",)), ("call", "f", (None,)),
    ("call", "f", (("a",),)), ("call", "f", ("A",)), ("call", "f", "a"), ("call", "f", (0,), 1), ("stop",), ("-",),
    ("call", "f", 0), ("call", ["f"], (0,)), ("call", "f", ("abcdefghi",)),
)
NO_POINTS = support.STRANGE + support.NUMBERS + support.LISTS + support.STRINGS + (
    (), ("a", "b", "c", "d"), ("A",), ("",), ("abcdefghi",), (None,), (1,), ("a", True), ("a", ["b"]), (("a",),), ["a"],
    ({},), ("a", "b,c"), ("a ",),
)
WRONG_PARTS = {
    "name": NO_NAMES,
    "superclasses": support.STRANGE + support.NUMBERS + support.LISTS + support.STRINGS + (
        ["a"], ("A",), ("",), ("abcdefghi",), (None,), (1,), ("a", True), ("a", ["b"]), (("a",),), ({},), ("a b",),
        ("a", "b", "c", "d", ""),
    ),
    "count": support.STRANGE + support.LISTS + support.TUPLES + support.STRINGS + (0, 4, -1, 10**59, "1", (1,), [1]),
    "point": NO_POINTS,
    "body": support.STRANGE + support.NUMBERS + support.LISTS + support.STRINGS + (
        ("next",), ("say", "a"), [("say", "a")], (("next",), ("next",)), (("next",), ("say", "a"), ("next",)), "-",
    ) + tuple((step,) for step in NO_STEPS) + tuple((("say", "a"), step, ("next",)) for step in NO_STEPS),
}
KINDS = {
    "class": ("name", "superclasses"),
    "remove": ("name",),
    "function": ("name", "count"),
    "define": ("name", "point", "body"),
    "drop": ("name", "point"),
    "decide": ("name", "point", "body"),
    "reduce": ("name",),
    "watch": ("name", "point"),
}
GOOD_PARTS = {
    "name": ("a", LONGEST),
    "superclasses": ((), ("a",), ("b", "a", LONGEST), tuple("abcdefghijklmnopqrstuvwxyz")),
    "count": (1, 2, 3),
    "point": (("a",), ("b", "a"), ("a", "a", LONGEST)),
    "body": ((), (("next",),), A * 5, (("say", LONGEST), ("next",), ("call", "f", (0, 1, 2)), ("call", LONGEST, ("a",)))),
}


def good_operations():
    """Every operation of the good parts."""
    for word, kinds in KINDS.items():
        for parts in itertools.product(*[GOOD_PARTS[kind] for kind in kinds]):
            yield (word, *parts)


def is_form(text):
    """Whether the string is a written form, in other words than those of the package."""
    return FORM.fullmatch(text) is not None and steps_of(text).count("next") <= 1


def steps_of(text):
    """The written steps of a written form."""
    word, *rest = text.split(" ", 3)
    return rest[2].split("; ") if word in ("define", "decide") else []


class IsOperationTest(support.Case):
    def test_operations(self):
        for operation, _ in WRITTEN:
            self.assertIs(is_operation(operation), True)
        for operation in good_operations():
            self.assertIs(is_operation(operation), True)
            self.assertIs(is_operation(value=operation), True)

    def assert_none(self, value):
        with self.subTest(value=value):
            self.assertIs(is_operation(value), False)
            self.assert_error(InvalidOperation, {"value": value}, write_operation, value)

    def test_wrong_parts(self):
        for word, kinds in KINDS.items():
            good = [GOOD_PARTS[kind][-1] for kind in kinds]
            for at, kind in enumerate(kinds):
                for wrong in WRONG_PARTS[kind]:
                    self.assert_none((word, *good[:at], wrong, *good[at + 1:]))

    def test_parts_too_many_and_too_few(self):
        for operation, _ in WRITTEN:
            for value in [operation[:size] for size in range(len(operation))]:
                self.assert_none(value)
            for more in (None, (), "a", ("a",), A, 1):
                self.assert_none((*operation, more))

    def test_lists_for_tuples_at_every_level(self):
        operation = ("define", "f", ("a", "b"), (("say", "x"), ("call", "g", (1, "a"))))
        self.assertIs(is_operation(operation), True)
        word, function, point, (first, (call, other, items)) = operation
        for value in (
            list(operation), [operation], (operation,), (word, function, list(point), (first,)),
            (word, function, point, [first]), (word, function, point, (list(first),)),
            (word, function, point, ([call, other, items],)), (word, function, point, ((call, other, list(items)),)),
        ):
            self.assert_none(value)
        self.assert_none(("class", "a", ["b"]))
        self.assert_none(["class", "a", ()])

    def test_other_words(self):
        for word in ("Class", "classes", "clas", "", "undo", "redo", "call", "limit", None, True, 0, b"class", ["class"], {}):
            for parts in ((), ("a",), ("a", ()), ("a", 1), ("a", ("b",)), ("a", ("b",), A)):
                self.assert_none((word, *parts))

    def test_values_of_any_other_kind(self):
        for value in support.NO_CLASSES + support.NO_POINTS + tuple(text for _, text in WRITTEN):
            self.assert_none(value)


class WriteTest(support.Case):
    def test_by_hand(self):
        for operation, text in WRITTEN:
            self.assert_same(write_operation(operation), text)
            self.assert_same(write_operation(operation=operation), text)

    def test_long_bodies(self):
        body = (("say", "x"),) * 199 + (("next",),)
        text = "define f a " + "; ".join(["say x"] * 199) + "; next"
        self.assert_same(write_operation(("define", "f", ("a",), body)), text)
        self.assert_same(read_operation(text), ("define", "f", ("a",), body))

    def test_different_operations_have_different_forms(self):
        every = list(good_operations())
        self.assertEqual(len({write_operation(operation) for operation in every}), len(every))


class ReadTest(support.Case):
    def test_by_hand(self):
        for operation, text in WRITTEN:
            self.assert_same(read_operation(text), operation)
            self.assert_same(read_operation(text=text), operation)

    def test_every_written_form_is_read_again(self):
        for operation in good_operations():
            self.assertTrue(is_form(write_operation(operation)))
            self.assert_same(read_operation(write_operation(operation)), operation)

    def test_every_letter(self):
        for letter in string.ascii_lowercase:
            operation = ("define", letter, (letter,), (("say", letter), ("call", letter, (letter, 0, letter * 8))))
            text = f"define {letter} {letter} say {letter}; call {letter} {letter},0,{letter * 8}"
            self.assert_same(write_operation(operation), text)
            self.assert_same(read_operation(text), operation)
            self.assert_raises(InvalidText, 1, read_operation, f"function f {letter}")

    def test_samples(self):
        source = random.Random(911)
        names = ["a", "b", "say", "next", "call", LONGEST]
        for _ in range(400):
            count = source.randint(1, 3)
            body = support.sample_body(source, names, {"f": 1, "g": 2, "next": 3}, count)
            point = tuple(source.choices(names, k=count))
            operation = (source.choice(("define", "decide")), source.choice(names), point, body)
            self.assert_same(read_operation(write_operation(operation)), operation)

    def assert_exact(self, text):
        """The string is read if it is a written form, and only then."""
        with self.subTest(text=text):
            if is_form(text):
                self.assert_same(write_operation(read_operation(text)), text)
            else:
                self.assert_error(InvalidText, {"line": 1}, read_operation, text)

    def test_one_character_more_less_or_other(self):
        for _, text in WRITTEN:
            for at in range(len(text) + 1):
                self.assert_exact(text[:at] + text[at + 1:])
                for letter in " ,;-+_/.\n0123aZ":
                    self.assert_exact(text[:at] + letter + text[at:])
                    self.assert_exact(text[:at] + letter + text[at + 1:])

    def test_two_neighbours_swapped(self):
        for _, text in WRITTEN:
            for at in range(len(text) - 1):
                self.assert_exact(text[:at] + text[at + 1] + text[at] + text[at + 2:])

    def test_wrong_texts_by_hand(self):
        for text in (
            "", " ", "\n", "-", "class", "class ", "class a ", " class a", "class  a", "class a  b", "class a\n", "class a,b",
            "class A", "Class a", "class abcdefghi", "class a b\nclass c", "remove", "remove a b", "remove a ", "function f",
            "function f 0", "function f 4", "function f 01", "function f +1", "function f -1", "function f 1 ", "function 1 f",
            "function f 1.", "function f one", "function f 11", "define f a", "define f a ", "define f a  -", "define f - -",
            "define f a --", "define f a -; say x", "define f a say x; -", "define f a say x;", "define f a say x; ",
            "define f a say x;say y", "define f a say x;  say y", "define f a say x ; say y", "define f a say x, say y",
            "define f a say", "define f a say x y", "define f a next; next", "define f a next ", "define f a next x",
            "define f a call g", "define f a call g ", "define f a call g 3", "define f a call g 00", "define f a call g 01",
            "define f a call g +1", "define f a call g -1", "define f a call g 0,", "define f a call g ,0",
            "define f a call g 0,,1", "define f a call g 0, 1", "define f a call g 0,1,2,0", "define f a call g 1a",
            "define f a call g 0 1", "define f a, say x", "define f ,a say x", "define f a, b say x", "define f a,b,c,d -",
            "define f a\n-", "drop f", "drop f a b", "drop f a,", "drop f a,b,c,d", "decide f a", "decide f", "reduce",
            "reduce f a", "reduce ", "watch f", "watch f a -", "undo", "redo", "call f a", "limit 1", "classes", "next", "say x",
            "define f a call g 100000000000000000000000000000000000000000000000000000000000", "class a;", "class a; class b",
        ):
            self.assertFalse(is_form(text), text)
            self.assert_raises(InvalidText, 1, read_operation, text)

    def test_values_that_are_no_strings(self):
        for value in support.STRANGE + support.NUMBERS + support.LISTS + support.TUPLES + (b"class a", ["class a"]):
            self.assert_raises(InvalidText, 0, read_operation, value)
        for operation, _ in WRITTEN:
            self.assert_raises(InvalidText, 0, read_operation, operation)


if __name__ == "__main__":
    unittest.main()
