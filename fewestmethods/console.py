"""A console: commands as strings, with results as strings."""

from fewestmethods.calls import call
from fewestmethods.calls import rivals
from fewestmethods.conflicts import conflicts
from fewestmethods.errors import InvalidCommand
from fewestmethods.names import is_name
from fewestmethods.operations import EMPTY
from fewestmethods.operations import operation_in
from fewestmethods.operations import read_number
from fewestmethods.operations import read_point
from fewestmethods.operations import written_body
from fewestmethods.operations import written_point
from fewestmethods.points import has_form_of_point
from fewestmethods.reduction import reason
from fewestmethods.reduction import redundant_points
from fewestmethods.sessions import Session
from fewestmethods.threats import threats

DONE = "ok"


def shown(words):
    """The result for a list of strings."""
    return " ".join(words) if len(words) > 0 else EMPTY


def shown_points(points):
    """The result for a list of points."""
    return shown([written_point(point) for point in points])


def shown_numbers(numbers):
    """The result for a list of numbers."""
    return shown([str(number) for number in numbers])


def undo_command(session):
    """The result of undo."""
    return str(session.undo())


def redo_command(session):
    """The result of redo."""
    return str(session.redo())


def classes_command(session):
    """The result of classes."""
    return shown(session.dispatcher().hierarchy().names())


def functions_command(session):
    """The result of functions."""
    return shown(session.dispatcher().functions())


def sites_command(session):
    """The result of sites."""
    return shown_numbers(session.dispatcher().sites())


def methods_command(session, function):
    """The result of methods."""
    return shown_points(session.dispatcher().table(function).points())


def redundant_command(session, function):
    """The result of redundant."""
    return shown_points(redundant_points(session.dispatcher().table(function)))


def conflicts_command(session, function):
    """The result of conflicts."""
    return shown_points(conflicts(session.dispatcher().table(function)))


def threats_command(session, function):
    """The result of threats."""
    pairs = threats(session.dispatcher().table(function))
    return shown([f"{written_point(first)}/{written_point(second)}" for first, second in pairs])


def call_command(session, function, point):
    """The result of call."""
    return written_body(call(session.dispatcher().table(function), point))


def rivals_command(session, function, point):
    """The result of rivals."""
    return shown_points(rivals(session.dispatcher().table(function), point))


def reason_command(session, function, point):
    """The result of reason."""
    found = reason(session.dispatcher().table(function), point)
    if found is None:
        return "redundant"
    word, *points = found
    return " ".join([word] + [written_point(other) for other in points])


def run_command(session, function, point):
    """The result of run."""
    return shown(session.run(function, point))


PLAIN_COMMANDS = {
    "undo": undo_command,
    "redo": redo_command,
    "classes": classes_command,
    "functions": functions_command,
    "sites": sites_command,
}
FUNCTION_COMMANDS = {
    "methods": methods_command,
    "redundant": redundant_command,
    "conflicts": conflicts_command,
    "threats": threats_command,
}
POINT_COMMANDS = {
    "call": call_command,
    "rivals": rivals_command,
    "reason": reason_command,
    "run": run_command,
}


def operation_command(session, operation):
    """The result of an operation."""
    word = operation[0]
    result = session.perform(operation)
    if word == "watch":
        return str(result)
    if word == "reduce":
        return shown_points(result)
    if word == "decide":
        return shown_points(result[0])
    if word == "function" or len(result) == 0:
        return DONE
    return f"ended {shown_numbers(result)}"


def query_result(session, word, parts):
    """The result of undo, redo or a query, or None if there is no such command."""
    if word in PLAIN_COMMANDS and len(parts) == 0:
        plain = PLAIN_COMMANDS[word]
        return plain(session)
    if word in FUNCTION_COMMANDS and len(parts) == 1 and is_name(parts[0]):
        of_function = FUNCTION_COMMANDS[word]
        return of_function(session, parts[0])
    if word in POINT_COMMANDS and len(parts) == 2 and is_name(parts[0]) and has_form_of_point(read_point(parts[1])):
        at_point = POINT_COMMANDS[word]
        return at_point(session, parts[0], read_point(parts[1]))
    return None


def command_result(session, command):
    """The result of a command, or None if the string is no command."""
    operation = operation_in(command)
    if operation is not None:
        return operation_command(session, operation)
    word, *parts = command.split(" ")
    if word == "limit" and len(parts) == 1 and read_number(parts[0]) is not None:
        session.run_limit = read_number(parts[0])
        return DONE
    return query_result(session, word, parts)


class Console:
    """A session that is used by commands."""

    def __init__(self):
        self.own_session = Session()

    def execute(self, command):
        """Performs a command and returns its result."""
        result = command_result(self.own_session, command) if isinstance(command, str) else None
        if result is None:
            raise InvalidCommand(command)
        return result

    def session(self):
        """An independent copy of the session."""
        return self.own_session.clone()
