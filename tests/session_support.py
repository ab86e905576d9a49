"""What the tests of sessions and of the console use."""

import support
from fewestmethods.conflicts import conflicts
from fewestmethods.dispatcher import Dispatcher
from fewestmethods.hierarchy import Hierarchy
from fewestmethods.sessions import Session

A = (("say", "a"),)
B = (("say", "b"),)
NEXT = (("next",),)
METHODS = {
    "class": "add_class", "remove": "remove_class", "function": "add_function", "define": "define", "drop": "drop",
    "decide": "decide", "reduce": "reduce", "watch": "watch",
}
# Two functions, a conflict, a redundant method, a site that ended and an open one.
OPERATIONS = [
    *[("class", name, superclasses) for name, superclasses in support.KINDS],
    ("function", "show", 1),
    ("function", "mark", 2),
    ("define", "show", ("thing",), A),
    ("define", "show", ("solid",), NEXT + B),
    ("watch", "show", ("ball",)),
    ("define", "mark", ("thing", "ball"), A),
    ("define", "mark", ("ball", "thing"), B),
    ("watch", "show", ("shape",)),
    ("define", "show", ("shape",), A),
]
RESULTS = [[], [], [], [], None, None, [], [], 1, [], [], 2, [1]]
NO_OPERATIONS = support.NO_CLASSES + support.NO_POINTS + (
    ("undo",), ("class", "a"), ("class", "a", ["b"]), ["class", "a", ()], ("function", "f", True), ("function", "f", 4),
    ("define", "f", ("a",), [("say", "a")]), ("define", "f", (), ()), ("drop", "f", ["a"]), ("reduce", None), "class a",
    ("watch", "f", ("a", "a", "a", "a")), ("define", "f", ("a",), NEXT + NEXT), ("reduce", "f", ()), (("class", "a", ()),),
)


def performed(dispatcher, operation):
    """What the method of a dispatcher returns or raises for an operation."""
    word, *parts = operation
    return support.outcome_of(getattr(dispatcher, METHODS[word]), *parts)


def dispatcher_after(operations):
    dispatcher = Dispatcher(Hierarchy())
    for operation in operations:
        assert performed(dispatcher, operation)[0] == "result", operation
    return dispatcher


def session_after(operations):
    session = Session()
    for operation in operations:
        session.perform(operation)
    return session


def next_number(dispatcher):
    """The number that the next site gets."""
    copy = dispatcher.clone()
    if not copy.functions() or not copy.hierarchy().names():
        return None
    other = (("say", "other"), ("say", "words"))
    for function in copy.functions():
        # With other words everywhere all sites end, so that there is room for one more. Backwards, because of next steps.
        for point in reversed(copy.table(function).points()):
            copy.define(function, point, other)
    function = copy.functions()[0]
    point = (copy.hierarchy().names()[0],) * copy.table(function).count()
    copy.define(function, point, other)
    return copy.watch(function, point)


def state_of(session):
    """All that can be asked of a session, what can be redone included."""
    dispatcher = session.dispatcher()
    later = []
    copy = session.clone()
    while copy.can_redo:
        copy.redo()
        later.append((copy.operations(), copy.dispatcher(), next_number(copy.dispatcher())))
    return (
        session.operations(), str(session), len(session), dispatcher, next_number(dispatcher), session.can_undo,
        session.can_redo, session.run_limit, later,
    )


def sample_operation(source, dispatcher):
    """An operation that fits to a dispatcher more or less."""
    names = dispatcher.hierarchy().names() or ["a"]
    function = source.choice([*dispatcher.functions(), *dispatcher.functions(), "f", "g"])
    is_known = function in dispatcher.functions()
    count = dispatcher.table(function).count() if is_known else 1
    point = tuple(source.choices(names, k=count))
    points = dispatcher.table(function).points() if is_known else []
    undecided = conflicts(dispatcher.table(function)) if is_known else []
    superclasses = tuple(source.sample(names, min(len(names), source.randint(0, 3))))
    plain = source.choice(support.PLAIN_BODIES + ((("call", "f", (0,)),),))
    if undecided and source.random() < 0.2:
        return "decide", function, source.choice(undecided), plain
    return source.choice([
        ("class", source.choice("abcdef"), superclasses),
        ("class", source.choice("abcdef"), superclasses),
        ("remove", source.choice(names)),
        ("function", source.choice("fgh"), source.randint(1, 3)),
        ("define", function, point, source.choice(support.NEXT_BODIES)),
        ("define", function, point, plain),
        ("define", function, point, plain),
        ("drop", function, source.choice(points or [point])),
        ("decide", function, point, plain),
        ("reduce", function),
        ("watch", function, point),
        ("watch", function, point),
    ])
