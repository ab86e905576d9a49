"""What several test files use."""

import copy
import inspect
import itertools
import random
import unittest

from fewestmethods import errors
from fewestmethods.dispatcher import Dispatcher
from fewestmethods.hierarchy import Hierarchy

OWN_ERRORS = tuple(value for value in vars(errors).values() if isinstance(value, type))

KINDS = [("thing", ()), ("shape", ("thing",)), ("solid", ("thing",)), ("ball", ("shape", "solid"))]

# Several superclasses, several roots, and two classes below the same pair.
WIDE = [
    ("a", ()),
    ("b", ()),
    ("c", ("a", "b")),
    ("d", ("b", "a")),
    ("e", ()),
    ("m", ("c", "d")),
    ("n", ("m", "e")),
    ("o", ("d", "e")),
]

# The names of twenty classes, a letter each.
TWENTY = "abcdefghijklmnopqrst"


class Plain:
    """An object that none of the functions knows."""


# None of these is a number, a string, a list or a tuple.
STRANGE = (None, True, False, b"a", b"thing", {}, {"a": ()}, {"thing": 1}, {"a"}, Plain(), Plain, len, Hierarchy())
NUMBERS = (0, 1, -1, 3, 10**59)
LISTS = ([], ["a"], ["thing"], [["a"]], [("a", ())], [{}], [("a",)])
TUPLES = ((), ("a",), ("thing",), ("a", ()), (("a", ()),), (["a"],), ({},), (None,), (True,))
# All of these but the last one are no names, and none is a class of KINDS or WIDE.
STRINGS = ("", " ", "A", "Thing", "thing ", " thing", "thing\n", "a b", "a1", "1", "a-b", "abcdefghi", "unknown")
# None of these is a point of KINDS or WIDE, of any length.
NO_POINTS = STRANGE + NUMBERS + STRINGS + LISTS + (
    "ball",
    (),
    ("x",),
    ("Ball",),
    ("",),
    (None,),
    (True,),
    (0,),
    ([],),
    ({},),
    (["ball"],),
    (("ball",),),
    ((),),
    ("ball", "x"),
    ("x", "a"),
    ("ball", "thing", None),
    ("ball", "ball", "ball", "ball"),
    ("a", "a", "a", "a"),
    ("a", "b", "c", "d", "e"),
    ["ball", "thing"],
    ["a", "b"],
    {"ball": "thing"},
)
NO_CLASSES = STRANGE + NUMBERS + LISTS + TUPLES + STRINGS


def has_hash(value):
    """Whether the value can be a key of a dict."""
    try:
        hash(value)
    except TypeError:
        return False
    return True


def hierarchies_of(names):
    """All hierarchies with these classes in this sequence."""
    choices = []
    for at in range(len(names)):
        earlier = names[:at]
        choices.append([chosen for size in range(at + 1) for chosen in itertools.combinations(earlier, size)])
    return [Hierarchy(list(zip(names, chosen))) for chosen in itertools.product(*choices)]


def is_below_by_definition(rows, name, other):
    """Point [5], read off the rows of a hierarchy."""
    return name == other or any(is_below_by_definition(rows, parent, other) for parent in dict(rows)[name])


class Reference:
    """Points [11] to [13], read off the rows of a hierarchy and a dict of methods, in the words of the document."""

    def __init__(self, rows, count, methods):
        self.rows = rows
        self.methods = methods
        names = [name for name, _ in rows]
        self.above = {
            (one, two): is_below_by_definition(rows, one, two) for one, two in itertools.product(names, repeat=2)
        }
        self.every = list(itertools.product(names, repeat=count))
        self.listed = [point for point in self.every if point in methods]

    def is_at_or_below(self, first, second):
        return all(self.above[pair] for pair in zip(first, second))

    def lowest(self, points):
        return [one for one in points if not any(two != one and self.is_at_or_below(two, one) for two in points)]

    def highest(self, points):
        return [one for one in points if not any(two != one and self.is_at_or_below(one, two) for two in points)]

    def applicable(self, point):
        return [method for method in self.listed if self.is_at_or_below(point, method)]

    def rivals(self, point):
        return self.lowest(self.applicable(point))

    def just_above(self, point):
        return self.lowest([method for method in self.applicable(point) if method != point])

    def has_next(self, point):
        return len({self.expansion(method) for method in self.just_above(point)}) == 1

    def expansion(self, point):
        steps = []
        for step in self.methods[point]:
            if step == ("next",):
                steps.extend(self.expansion(self.just_above(point)[0]))
            else:
                steps.append(step)
        return tuple(steps)

    def outcome(self, point):
        found = {self.expansion(method) for method in self.rivals(point)}
        if not found:
            return "none", None
        return ("answered", found.pop()) if len(found) == 1 else ("ambiguous", None)

    def conflicts(self):
        return self.highest([point for point in self.every if self.outcome(point)[0] == "ambiguous"])

    def is_redundant(self, point):
        return self.has_next(point) and self.expansion(self.just_above(point)[0]) == self.expansion(point)

    def without(self, point):
        left = {other: body for other, body in self.methods.items() if other != point}
        return Reference(self.rows, len(point), left)


PLAIN_BODIES = ((), (("say", "x"),), (("say", "y"),), (("say", "x"), ("say", "y")))
NEXT_BODIES = ((("next",),), (("next",), ("say", "x")), (("say", "x"), ("next",)), (("say", "y"), ("next",), ("say", "x")))


def sample_rows(source, size):
    """The rows of a hierarchy with several superclasses."""
    rows = []
    for name in TWENTY[:size]:
        earlier = [other for other, _ in rows]
        chosen = source.sample(earlier, min(len(earlier), source.choice((0, 1, 1, 2, 2, 3))))
        rows.append((name, tuple(chosen)))
    return rows


def sample_methods(source, rows, count, amount):
    """Methods that fit together, many of them with next steps and with the same expansions, in any order."""
    every = list(itertools.product([name for name, _ in rows], repeat=count))
    methods = {}
    for point in sorted(source.sample(range(len(every)), min(amount, len(every)))):
        with_point = Reference(rows, count, {**methods, every[point]: ()})
        may_go_on = with_point.has_next(every[point]) and source.random() < 0.5
        methods[every[point]] = source.choice(NEXT_BODIES if may_go_on else PLAIN_BODIES)
    shuffled = list(methods.items())
    source.shuffle(shuffled)
    return dict(shuffled)


def samples(seed, amount):
    """Tuples (rows, count, methods) with one, two and three parameters, always the same for a seed."""
    source = random.Random(seed)
    found = []
    for at in range(amount):
        count = at % 3 + 1
        rows = sample_rows(source, source.randint(2, (8, 5, 3)[count - 1]))
        found.append((rows, count, sample_methods(source, rows, count, source.randint(0, 9))))
    return found


def same(first, second):
    """Whether two values are equal and of the same kind, also inside: True is not 1."""
    if type(first) is not type(second):
        return False
    if isinstance(first, (list, tuple)):
        return len(first) == len(second) and all(same(one, two) for one, two in zip(first, second))
    return first == second


class Case(unittest.TestCase):
    """A test case that checks errors with their attributes, and results with their kinds."""

    def assert_same(self, first, second):
        self.assertTrue(same(first, second), f"{first!r} is not {second!r}")

    def assert_error(self, wanted, attributes, action, *values, **named):
        """The action raises just this class, with just these attributes, and changes no argument."""
        before = copied(values)
        with self.assertRaises(wanted) as caught:
            action(*values, **named)
        error = caught.exception
        self.assertIs(type(error), wanted)
        self.assertEqual(sorted(vars(error)), sorted(attributes))
        for name, value in attributes.items():
            self.assert_same(getattr(error, name), value)
        self.assertEqual(copied(values), before)

    def assert_raises(self, wanted, value, action, *values):
        """As assert_error, for an error with one attribute."""
        (name,) = inspect.signature(wanted).parameters
        with self.subTest(value=value, values=values):
            self.assert_error(wanted, {name: value}, action, *values)


def copied(values):
    """Copies of the lists and dicts among the values, to see whether they stay as they were."""
    return [copy.deepcopy(value) for value in values if isinstance(value, (list, dict, tuple)) and is_plain(value)]


def is_plain(value):
    if isinstance(value, (list, tuple)):
        return all(is_plain(item) for item in value)
    if isinstance(value, dict):
        return all(is_plain(key) and is_plain(item) for key, item in value.items())
    return value is None or isinstance(value, (bool, int, str, bytes))


def outcome_of(action, *values, **named):
    """The result of an action, or the name of the error that it raises, with its attributes."""
    try:
        return "result", action(*values, **named)
    except OWN_ERRORS as error:
        return type(error).__name__, vars(error)


def every_point(table):
    """All points of a table, as listed."""
    return list(itertools.product(table.hierarchy().names(), repeat=table.count()))


def applicable_by_definition(table, point):
    """The points of the methods that are applicable at a point, as listed."""
    rows = [(name, table.hierarchy().superclasses(name)) for name in table.hierarchy().names()]
    return Reference(rows, table.count(), {one: () for one in table.points()}).applicable(point)


def sample_step(source, names, counts, count):
    """A step for count parameters; some call steps are wrong."""
    if source.random() < 0.5:
        return "say", source.choice("xyz")
    function = source.choice(list(counts) * 4 + ["none"])
    length = counts.get(function, 1) if source.random() < 0.9 else source.randint(1, 3)
    items = [source.choice([*range(count), *range(count), source.choice(names * 5 + ["gone"])]) for _ in range(length)]
    return "call", function, tuple(items)


def sample_body(source, names, counts, count):
    steps = [sample_step(source, names, counts, count) for _ in range(source.choice((0, 1, 1, 2, 2, 3)))]
    if source.random() < 0.3:
        steps.insert(source.randint(0, len(steps)), ("next",))
    return tuple(steps)


def sample_calling(source):
    """A dispatcher with three functions whose methods call each other."""
    rows = sample_rows(source, source.randint(2, 4))
    dispatcher = Dispatcher(Hierarchy(rows))
    names = [name for name, _ in rows]
    counts = {"f": 1, "g": 2, "h": source.randint(1, 3)}
    for function, count in counts.items():
        dispatcher.add_function(function, count)
    for _ in range(source.randint(3, 14)):
        function = source.choice(list(counts))
        point = tuple(source.choices(names, k=counts[function]))
        outcome_of(dispatcher.define, function, point, sample_body(source, names, counts, counts[function]))
    return dispatcher
