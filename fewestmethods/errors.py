"""The errors of the package. Messages do not show callers' values, which may be of any kind."""


class MethodsError(ValueError):
    """A value that is not of the form that is required."""

    def __init__(self, message):
        ValueError.__init__(self, message)


class InvalidHierarchy(MethodsError):
    """The classes of a hierarchy are wrong at a position."""

    def __init__(self, problem, position):
        MethodsError.__init__(self, f"wrong classes: {problem} at {position}")
        self.problem = problem
        self.position = position


class InvalidName(MethodsError):
    """A value is not a name."""

    def __init__(self, value):
        MethodsError.__init__(self, "not a name")
        self.value = value


class InvalidSuperclasses(MethodsError):
    """A value is not a tuple of different classes."""

    def __init__(self, value):
        MethodsError.__init__(self, "not a tuple of different classes")
        self.value = value


class InvalidText(MethodsError):
    """A text is wrong at a line, counted from 1; 0 means that it is not a string."""

    def __init__(self, line):
        MethodsError.__init__(self, f"wrong text at line {line}")
        self.line = line


class InvalidPoint(MethodsError):
    """A value is not a point that fits."""

    def __init__(self, value):
        MethodsError.__init__(self, "not a point that fits")
        self.value = value


class InvalidPoints(MethodsError):
    """A list of points is wrong at a position."""

    def __init__(self, position):
        MethodsError.__init__(self, f"wrong points at {position}")
        self.position = position


class InvalidCount(MethodsError):
    """A value is not a parameter count."""

    def __init__(self, value):
        MethodsError.__init__(self, "not a parameter count")
        self.value = value


class InvalidBody(MethodsError):
    """A value is not a body that fits."""

    def __init__(self, value):
        MethodsError.__init__(self, "not a body that fits")
        self.value = value


class InvalidMethods(MethodsError):
    """The methods of a table are wrong at a point."""

    def __init__(self, problem, point):
        MethodsError.__init__(self, f"wrong methods: {problem}")
        self.problem = problem
        self.point = point


class InvalidReceipt(MethodsError):
    """A value is not a receipt."""

    def __init__(self, value):
        MethodsError.__init__(self, "not a receipt")
        self.value = value


class InvalidModule(MethodsError):
    """A part of a module is wrong at a position."""

    def __init__(self, problem, position):
        MethodsError.__init__(self, f"wrong module: {problem} at {position}")
        self.problem = problem
        self.position = position


class InvalidModules(MethodsError):
    """A list of modules is not a system because of a module."""

    def __init__(self, problem, module):
        MethodsError.__init__(self, f"no system of modules: {problem}")
        self.problem = problem
        self.module = module


class InvalidLimit(MethodsError):
    """A value is not a limit for runs."""

    def __init__(self, value):
        MethodsError.__init__(self, "not a limit for runs")
        self.value = value


class InvalidOperation(MethodsError):
    """A value is not an operation."""

    def __init__(self, value):
        MethodsError.__init__(self, "not an operation")
        self.value = value


class InvalidCommand(MethodsError):
    """A value is not a command."""

    def __init__(self, value):
        MethodsError.__init__(self, "not a command")
        self.value = value


class NotFound(LookupError):
    """A value is not what is required to exist."""

    def __init__(self, value):
        LookupError.__init__(self, "not found")
        self.value = value


class NoMethod(LookupError):
    """There is no call at a point."""

    def __init__(self, point):
        LookupError.__init__(self, "no method is applicable")
        self.point = point


class Ambiguous(RuntimeError):
    """The rivals at a point have different expansions."""

    def __init__(self, point, rivals):
        RuntimeError.__init__(self, "the rivals have different expansions")
        self.point = point
        self.rivals = rivals


class NoNext(RuntimeError):
    """A method with a next step has no next."""

    def __init__(self, point):
        RuntimeError.__init__(self, "a next step without a next")
        self.point = point


class InUse(RuntimeError):
    """What is to be removed is used by a value."""

    def __init__(self, value):
        RuntimeError.__init__(self, "still in use")
        self.value = value


class NameTaken(RuntimeError):
    """A new name exists already."""

    def __init__(self, value):
        RuntimeError.__init__(self, "the name is taken")
        self.value = value


class Unlike(RuntimeError):
    """Two tables are not like each other."""

    def __init__(self):
        RuntimeError.__init__(self, "the tables are not like each other")


class NotAConflict(RuntimeError):
    """A point is not a conflict."""

    def __init__(self, point):
        RuntimeError.__init__(self, "not a conflict")
        self.point = point


class NotAThreat(RuntimeError):
    """Two methods are not a threat."""

    def __init__(self, first, second):
        RuntimeError.__init__(self, "not a threat")
        self.first = first
        self.second = second


class Unsettled(RuntimeError):
    """A covered point is not answered by the same expansion."""

    def __init__(self, point):
        RuntimeError.__init__(self, "not answered by the same expansion")
        self.point = point


class NothingToUndo(RuntimeError):
    """No operation can be undone."""

    def __init__(self):
        RuntimeError.__init__(self, "nothing to undo")


class NothingToRedo(RuntimeError):
    """No operation can be redone."""

    def __init__(self):
        RuntimeError.__init__(self, "nothing to redo")


class TooMany(ArithmeticError):
    """There would be more than a limit allows."""

    def __init__(self, limit):
        ArithmeticError.__init__(self, f"more than {limit}")
        self.limit = limit


class TooManySteps(ArithmeticError):
    """A run would begin more steps than its limit."""

    def __init__(self, limit):
        ArithmeticError.__init__(self, f"more than {limit} steps")
        self.limit = limit
