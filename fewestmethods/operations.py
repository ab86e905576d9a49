"""Operations of sessions, and the written forms of these and of their parts."""

from fewestmethods.bodies import CALL_WORD
from fewestmethods.bodies import is_body
from fewestmethods.errors import InvalidOperation
from fewestmethods.errors import InvalidText
from fewestmethods.names import are_names
from fewestmethods.names import is_name
from fewestmethods.points import MAX_PARAMETERS
from fewestmethods.points import has_form_of_point
from fewestmethods.points import is_parameter_count

PARTS_OF_OPERATIONS = {
    "class": ("name", "superclasses"),
    "remove": ("name",),
    "function": ("name", "count"),
    "define": ("name", "point", "body"),
    "drop": ("name", "point"),
    "decide": ("name", "point", "body"),
    "reduce": ("name",),
    "watch": ("name", "point"),
}

DIGITS = "0123456789"
EMPTY = "-"


def is_part(kind, value):
    """Whether the value can be a part of this kind in an operation."""
    if kind == "name":
        return is_name(value)
    if kind == "superclasses":
        return are_names(value)
    if kind == "count":
        return is_parameter_count(value)
    if kind == "point":
        return has_form_of_point(value)
    return is_body(value, MAX_PARAMETERS)


def is_operation(value):
    """Whether the value is an operation."""
    if not isinstance(value, tuple) or len(value) == 0 or not isinstance(value[0], str):
        return False
    kinds = PARTS_OF_OPERATIONS.get(value[0], ())
    # No operation is without parts, so an unknown word has the wrong length.
    if len(kinds) == 0 or len(kinds) != len(value) - 1:
        return False
    return all([is_part(kind, part) for kind, part in zip(kinds, value[1:])])


def written_point(point):
    """The written form of a point."""
    return ",".join(point)


def written_step(step):
    """The written form of a step."""
    if step[0] != CALL_WORD:
        return " ".join(step)
    arguments = ",".join([str(item) for item in step[2]])
    return f"{step[0]} {step[1]} {arguments}"


def written_body(body):
    """The written form of a body."""
    if len(body) == 0:
        return EMPTY
    return "; ".join([written_step(step) for step in body])


def written_part(kind, part):
    """The written form of a part of an operation."""
    if kind == "superclasses":
        return " ".join(part)
    if kind == "point":
        return written_point(part)
    if kind == "body":
        return written_body(part)
    return str(part)


def written_operation(operation):
    """The written form of an operation that is known to be one."""
    word, *parts = operation
    words = [word]
    for kind, part in zip(PARTS_OF_OPERATIONS[word], parts):
        # Without superclasses there is no space behind the name.
        if kind != "superclasses" or len(part) > 0:
            words.append(written_part(kind, part))
    return " ".join(words)


def write_operation(operation):
    """The written form of an operation."""
    if not is_operation(operation):
        raise InvalidOperation(operation)
    return written_operation(operation)


def read_number(text):
    """The integer that is written without sign and without leading zeros, or None."""
    if text == "" or not all([letter in DIGITS for letter in text]):
        return None
    if text[0] == "0" and len(text) > 1:
        return None
    number = 0
    for letter in text:
        number = number * 10 + DIGITS.index(letter)
    return number


def read_argument(text):
    """The argument of a call step: an integer where one is written, otherwise the text."""
    number = read_number(text)
    return text if number is None else number


def read_step(text):
    """The step with this written form; for other texts a tuple that is no step."""
    words = text.split(" ")
    if words[0] == CALL_WORD and len(words) == 3:
        return words[0], words[1], tuple([read_argument(item) for item in words[2].split(",")])
    return tuple(words)


def read_point(text):
    """The point with this written form; for other texts a tuple that is no point."""
    return tuple(text.split(","))


def read_part(kind, text):
    """The part with this written form; for other texts a value that is no such part."""
    if kind == "superclasses":
        return tuple(text.split(" "))
    if kind == "count":
        return read_number(text)
    if kind == "point":
        return read_point(text)
    if kind == "body":
        return () if text == EMPTY else tuple([read_step(step) for step in text.split("; ")])
    return text


def operation_in(text):
    """The operation with this written form, or None."""
    kinds = PARTS_OF_OPERATIONS.get(text.split(" ")[0], ())
    word, *texts = text.split(" ", len(kinds))
    parts = [read_part(kind, part) for kind, part in zip(kinds, texts)]
    if "superclasses" in kinds and len(texts) == 1:
        parts.append(())
    operation = (word, *parts)
    return operation if is_operation(operation) else None


def read_operation(text):
    """The operation with this written form."""
    if not isinstance(text, str):
        raise InvalidText(0)
    operation = operation_in(text)
    if operation is None:
        raise InvalidText(1)
    return operation
