"""Steps and bodies, point [10]."""

import unittest

import support
from fewestmethods.bodies import is_body

SAY = ("say", "a")
NEXT = ("next",)
COUNTS = (1, 2, 3)
WORDS = {0: "", 1: "q", 8: "qwertyui", 9: "qwertyuio"}
NO_NAMES = support.STRANGE + support.LISTS + ((), ("a",), "", "A", "a b", "a1", "a\n", " a", "abcdefghi", -1, 7, 10**59)


def call_of(*arguments):
    return (("call", "f", arguments),)


class BodiesTest(support.Case):
    def assert_body(self, wanted, value, counts=COUNTS):
        for count in counts:
            with self.subTest(value=value, count=count):
                self.assertIs(is_body(value, count), wanted)
                self.assertIs(is_body(count=count, value=value), wanted)

    def assert_step(self, wanted, step, counts=COUNTS):
        """The step alone, and at the first, a middle and the last place of a body."""
        for body in ((step,), (step, SAY), (SAY, step, SAY), (SAY, SAY, step), (SAY, NEXT, step)):
            if step != NEXT or body.count(NEXT) == 1:
                self.assert_body(wanted, body, counts)

    def test_the_empty_body(self):
        self.assert_body(True, ())

    def test_each_kind_of_step(self):
        self.assert_step(True, SAY)
        self.assert_step(True, NEXT)
        self.assert_step(True, ("call", "f", (0,)))
        self.assert_step(True, ("call", "f", ("ball",)))
        self.assert_body(True, (SAY, NEXT, ("call", "f", (0, "ball")), SAY, ("call", "call", ("say", "next"))))

    def test_lengths_of_names(self):
        for length, word in WORDS.items():
            wanted = length in (1, 8)
            self.assert_step(wanted, ("say", word))
            self.assert_step(wanted, ("call", word, (0,)))
            self.assert_step(wanted, ("call", "f", (word,)))
            self.assert_step(wanted, ("call", "f", (0, "ball", word)))

    def test_values_that_are_no_names(self):
        for value in NO_NAMES:
            self.assert_step(False, ("say", value))
            self.assert_step(False, ("call", value, (0,)))
            self.assert_step(False, ("call", "f", (value,)))
            self.assert_step(False, ("call", "f", (0, value)))
            self.assert_step(False, ("call", "f", ("ball", "ball", value)))

    def test_indexes(self):
        for count in COUNTS:
            for index in range(-2, 6):
                wanted = 0 <= index < count
                for arguments in ((index,), (index, 0), ("ball", index), (0, "ball", index)):
                    self.assert_body(wanted, call_of(*arguments), (count,))
            self.assert_body(False, call_of(10**59), (count,))
            self.assert_body(False, call_of(-(10**59)), (count,))

    def test_bools_are_no_indexes_and_no_words(self):
        for value in (True, False):
            self.assert_body(False, call_of(value))
            self.assert_body(False, call_of(0, value))
            self.assert_body(False, call_of("ball", value, "ball"))
            self.assert_body(False, (("say", value),))
            self.assert_body(False, value)

    def test_numbers_of_arguments(self):
        for number in range(6):
            wanted = 1 <= number <= 3
            self.assert_step(wanted, ("call", "f", (0,) * number))
            self.assert_step(wanted, ("call", "f", ("ball",) * number))
        self.assert_body(False, call_of(0, 0, 0, 0))
        self.assert_body(False, call_of("a", "b", "c", "d"))
        self.assert_body(True, call_of(2, 1, 0), (3,))
        self.assert_body(False, call_of(2, 1, 0), (1, 2))

    def test_next_steps(self):
        self.assert_body(True, (SAY, SAY))
        self.assert_body(True, (NEXT,))
        for body in ((NEXT, NEXT), (NEXT, SAY, NEXT), (SAY, NEXT, SAY, SAY, NEXT), (NEXT,) * 3):
            self.assert_body(False, body)

    def test_a_list_for_a_tuple(self):
        self.assert_body(False, [])
        self.assert_body(False, [SAY])
        self.assert_body(False, [NEXT])
        self.assert_step(False, ["say", "a"])
        self.assert_step(False, ["next"])
        self.assert_step(False, ["call", "f", (0,)])
        self.assert_step(False, ("call", "f", [0]))
        self.assert_step(False, ("call", "f", []))
        self.assert_step(False, ("call", ["f"], (0,)))
        self.assert_step(False, ("call", "f", ([0],)))
        self.assert_step(False, ("call", "f", (["ball"],)))
        self.assert_step(False, ("say", ["a"]))
        self.assert_step(False, (["say"], "a"))

    def test_tuples_at_a_wrong_level(self):
        for value in (SAY, ("call", "f", (0,)), ("say",), ("next", "next"), (("say", "a"), "say"), (((SAY,),),)):
            self.assert_body(False, value)
        self.assert_body(False, ("next",))
        self.assert_step(False, (SAY,))
        self.assert_step(False, (NEXT,))
        self.assert_step(False, ("call", "f", ((0,),)))
        self.assert_step(False, ("call", "f", 0))
        self.assert_step(False, ("call", "f", "ball"))

    def test_steps_with_more_or_less_parts(self):
        steps = [
            (), ("say",), ("say", "a", "b"), ("say", "a", (0,)), ("say", "a", ()), ("next", "a"), ("next", ()),
            ("next", "a", (0,)), ("call",), ("call", "f"), ("call", "f", (0,), (0,)), ("call", "f", 0, 0), ("call", (0,)),
            ("call", "f", (0,), "a"), ("call", "f", ()), ("call", "f", None),
        ]
        for step in steps:
            self.assert_step(False, step)

    def test_other_words_at_the_start_of_a_step(self):
        for word in ("", "Say", "say ", "tell", "goto", "next", "call", None, True, 0, b"say", ("say",), {}, support.Plain()):
            self.assert_step(False, (word, "a"))
        for word in ("", "Call", "say", "next", "run", None, False, 1, b"call", ("call",), {}, support.Plain()):
            self.assert_step(False, (word, "f", (0,)))
        for word in ("", "Next", "say", "call", "last", None, True, 0, b"next", ("next",), [], support.Plain()):
            self.assert_step(False, (word,))

    def test_values_of_every_other_kind(self):
        for value in support.STRANGE + support.NUMBERS + support.LISTS + support.STRINGS:
            self.assert_body(False, value)
            self.assert_step(False, value)
        for value in support.TUPLES:
            self.assert_body(value == (), value)
        for value in ({"say": "a"}, {SAY: 1}, {SAY}, "say", "next", b"next", iter(()), range(0)):
            self.assert_body(False, value)

    def test_long_bodies(self):
        self.assert_body(True, (SAY,) * 200)
        self.assert_body(True, (SAY,) * 100 + (NEXT,) + (SAY,) * 99)
        self.assert_body(False, (SAY,) * 199 + (("say", "A"),))


if __name__ == "__main__":
    unittest.main()
