"""Bodies of methods, which are tuples of steps."""

from fewestmethods.names import is_name
from fewestmethods.points import is_parameter_count

SAY_WORD = "say"
CALL_WORD = "call"
NEXT_STEP = ("next",)


def is_argument(value, count):
    """Whether the value is the index of one of count parameters, or the name of a class."""
    if isinstance(value, int) and not isinstance(value, bool):
        return 0 <= value < count
    return is_name(value)


def are_arguments(value, count):
    """Whether the value is a tuple of one to three arguments of a call step."""
    if not isinstance(value, tuple) or not is_parameter_count(len(value)):
        return False
    return all([is_argument(item, count) for item in value])


def is_step(value, count):
    """Whether the value is a step for count parameters."""
    if not isinstance(value, tuple):
        return False
    if len(value) == 2:
        return value[0] == SAY_WORD and is_name(value[1])
    if len(value) == 3:
        return value[0] == CALL_WORD and is_name(value[1]) and are_arguments(value[2], count)
    return value == NEXT_STEP


def is_body(value, count):
    """Whether the value is a body for count parameters."""
    if not isinstance(value, tuple) or not all([is_step(step, count) for step in value]):
        return False
    return len([step for step in value if step == NEXT_STEP]) <= 1


def has_next_step(body):
    """Whether one of the steps of a body is a next step."""
    return NEXT_STEP in body


def with_next_replaced(body, steps):
    """The body with its next step replaced by these steps."""
    at = body.index(NEXT_STEP)
    return body[:at] + steps + body[at + 1:]
