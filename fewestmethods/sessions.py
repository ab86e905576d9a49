"""Sessions: operations on a dispatcher, with undo, redo and a text."""

from fewestmethods.dispatcher import Dispatcher
from fewestmethods.errors import Ambiguous
from fewestmethods.errors import InUse
from fewestmethods.errors import InvalidOperation
from fewestmethods.errors import InvalidText
from fewestmethods.errors import MethodsError
from fewestmethods.errors import NameTaken
from fewestmethods.errors import NoMethod
from fewestmethods.errors import NoNext
from fewestmethods.errors import NotAConflict
from fewestmethods.errors import NotFound
from fewestmethods.errors import NothingToRedo
from fewestmethods.errors import NothingToUndo
from fewestmethods.errors import TooMany
from fewestmethods.errors import Unsettled
from fewestmethods.hierarchy import Hierarchy
from fewestmethods.operations import is_operation
from fewestmethods.operations import read_operation
from fewestmethods.operations import written_operation
from fewestmethods.running import MAX_RUN_STEPS
from fewestmethods.running import require_run_limit
from fewestmethods.running import run


def performed(dispatcher, operation):
    """Performs an operation with the method of the dispatcher, and returns what that returns."""
    word, *parts = operation
    if word == "class":
        return dispatcher.add_class(*parts)
    if word == "remove":
        return dispatcher.remove_class(*parts)
    if word == "function":
        return dispatcher.add_function(*parts)
    if word == "define":
        return dispatcher.define(*parts)
    if word == "drop":
        return dispatcher.drop(*parts)
    if word == "decide":
        return dispatcher.decide(*parts)
    if word == "reduce":
        return dispatcher.reduce(*parts)
    return dispatcher.watch(*parts)


def could_perform_line(session, line):
    """Performs the operation that a line is the written form of, and returns whether there was no error."""
    try:
        session.perform(read_operation(line))
    except (MethodsError, NotFound, NoMethod, Ambiguous, NoNext, InUse, NameTaken, NotAConflict, Unsettled, TooMany):
        return False
    return True


class Session:
    """Operations, and the dispatchers before and after each of them, which are never changed."""

    def __init__(self):
        self.states = [Dispatcher(Hierarchy())]
        self.known = []
        # Of the known operations those behind this number are undone.
        self.done = 0
        self.own_run_limit = MAX_RUN_STEPS

    @classmethod
    def read(cls, text):
        """The session that performed the operations of a text."""
        if not isinstance(text, str):
            raise InvalidText(0)
        *lines, rest = text.split("\n")
        session = cls()
        for at, line in enumerate(lines):
            if not could_perform_line(session, line):
                raise InvalidText(at + 1)
        # What stands behind the last line feed is a line without one.
        if rest != "":
            raise InvalidText(len(lines) + 1)
        return session

    def __eq__(self, other):
        return isinstance(other, Session) and self.known[:self.done] == other.known[:other.done]

    def __len__(self):
        return len(self.known[:self.done])

    def __str__(self):
        return "".join([written_operation(operation) + "\n" for operation in self.known[:self.done]])

    @property
    def can_undo(self):
        """Whether there is an operation to undo."""
        return self.done > 0

    @property
    def can_redo(self):
        """Whether there is an operation to redo."""
        return self.done < len(self.known)

    @property
    def run_limit(self):
        """The limit of the runs of this session."""
        return self.own_run_limit

    @run_limit.setter
    def run_limit(self, value):
        require_run_limit(value)
        self.own_run_limit = value

    def operations(self):
        """The list of the operations that are not undone."""
        return self.known[:self.done]

    def dispatcher(self):
        """An independent copy of the dispatcher."""
        return self.states[self.done].clone()

    def clone(self):
        """An independent copy, with what can be redone and the run limit."""
        twin = Session()
        twin.take_operations_of(self)
        twin.own_run_limit = self.own_run_limit
        return twin

    def take_operations_of(self, other):
        """Takes over the operations of a session, with those that can be redone."""
        self.states = list(other.states)
        self.known = list(other.known)
        self.done = other.done

    def perform(self, operation):
        """Performs an operation and returns what the method of the dispatcher returns."""
        if not is_operation(operation):
            raise InvalidOperation(operation)
        later = self.dispatcher()
        result = performed(later, operation)
        self.states = self.states[:self.done + 1] + [later]
        self.known = self.known[:self.done] + [operation]
        self.done += 1
        return result

    def perform_all(self, operations):
        """Performs a list of operations and returns the list of their results."""
        if not isinstance(operations, list):
            raise InvalidOperation(operations)
        # A copy is tried first, so that an error leaves this session as it is.
        twin = self.clone()
        results = []
        for operation in operations:
            results.append(twin.perform(operation))
        self.take_operations_of(twin)
        return results

    def undo(self):
        """Undoes the last operation; returns the number of operations that are left."""
        if not self.can_undo:
            raise NothingToUndo()
        self.done -= 1
        return self.done

    def redo(self):
        """Performs the operation again that was undone last; returns the number of operations."""
        if not self.can_redo:
            raise NothingToRedo()
        # An operation has only one result, so the dispatcher behind it is still the right one.
        self.done += 1
        return self.done

    def run(self, function, point):
        """The words of a run with the run limit."""
        return run(self.states[self.done], function, point, limit=self.own_run_limit)
