"""Hierarchies of classes."""

from fewestmethods.errors import InUse
from fewestmethods.errors import InvalidHierarchy
from fewestmethods.errors import InvalidName
from fewestmethods.errors import InvalidSuperclasses
from fewestmethods.errors import InvalidText
from fewestmethods.errors import NameTaken
from fewestmethods.errors import NotFound
from fewestmethods.errors import TooMany
from fewestmethods.names import is_name

CLASS_WORD = "class"


def are_superclasses(value, known):
    """Whether the value is a tuple of different classes, each a key of known."""
    if not isinstance(value, tuple):
        return False
    # Only strings are looked up, because other values may have no hash.
    if not all([isinstance(name, str) and name in known for name in value]):
        return False
    return len(set(value)) == len(value)


def row_problem(row, known):
    """The first problem of a row (name, superclasses) behind the known classes, or None."""
    if not isinstance(row, tuple) or len(row) != 2:
        return "class"
    name, superclasses = row
    if not is_name(name):
        return "name"
    if name in known:
        return "duplicate"
    if not are_superclasses(superclasses, known):
        return "superclasses"
    return None


def ancestors_of(name, superclasses, above):
    """A dict whose keys are the class and all classes above it."""
    found = {name: True}
    for superclass in superclasses:
        for ancestor in above[superclass]:
            found[ancestor] = True
    return found


def write_row(name, superclasses):
    """The line of a class, with its line feed."""
    return " ".join([CLASS_WORD, name, *superclasses]) + "\n"


def read_row(line):
    """The row that a line without its line feed has the form of, or None."""
    words = line.split(" ")
    if words[0] != CLASS_WORD or len(words) < 2:
        return None
    return words[1], tuple(words[2:])


class Hierarchy:
    """A sequence of classes, each with its superclasses. It never changes."""

    LIMIT = 20

    def __init__(self, classes=()):
        if not isinstance(classes, (list, tuple)):
            raise InvalidHierarchy("list", 0)
        self.rows = []
        self.places = {}
        self.above = {}
        for position, row in enumerate(classes):
            problem = row_problem(row, self.places)
            if problem is not None:
                raise InvalidHierarchy(problem, position)
            name, superclasses = row
            self.rows.append((name, superclasses))
            self.places[name] = position
            self.above[name] = ancestors_of(name, superclasses, self.above)
        if len(self.rows) > Hierarchy.LIMIT:
            raise InvalidHierarchy("count", Hierarchy.LIMIT)

    @classmethod
    def read(cls, text):
        """The hierarchy with this text."""
        if not isinstance(text, str):
            raise InvalidText(0)
        *lines, rest = text.split("\n")
        rows = []
        known = {}
        for at, line in enumerate(lines):
            row = read_row(line)
            if at == cls.LIMIT or row_problem(row, known) is not None:
                raise InvalidText(at + 1)
            rows.append(row)
            known[row[0]] = True
        # What stands behind the last line feed is a line without one.
        if rest != "":
            raise InvalidText(len(lines) + 1)
        return cls(rows)

    @classmethod
    def of(cls, **superclasses):
        """The hierarchy whose classes are the keywords, each with its superclasses."""
        return cls(list(superclasses.items()))

    def __eq__(self, other):
        return isinstance(other, Hierarchy) and self.rows == other.rows

    def __len__(self):
        return len(self.rows)

    def __repr__(self):
        return f"Hierarchy({self.rows!r})"

    def __str__(self):
        return "".join([write_row(name, superclasses) for name, superclasses in self.rows])

    def names(self):
        """The list of the classes, in sequence."""
        return list(self.places)

    def has_class(self, value):
        """Whether the value is a class of the hierarchy."""
        return isinstance(value, str) and value in self.places

    def superclasses(self, name):
        """The tuple of the superclasses of a class."""
        return self.rows[self.position_of(name)][1]

    def position_of(self, name):
        """The index of a class in the sequence."""
        self.require_class(name)
        return self.places[name]

    def require_class(self, value):
        """Raises NotFound if the value is not a class."""
        if not self.has_class(value):
            raise NotFound(value)

    def is_at_or_below(self, name, other):
        """Whether the class name is at or below the class other."""
        self.require_class(name)
        self.require_class(other)
        return other in self.above[name]

    def ancestors(self, name):
        """The list of all classes that the class is at or below, as listed."""
        self.require_class(name)
        return [other for other in self.names() if other in self.above[name]]

    def descendants(self, name):
        """The list of all classes at or below the class, as listed."""
        self.require_class(name)
        return [other for other in self.names() if name in self.above[other]]

    def highest_common(self, first, *others):
        """The list of the highest common subclasses of the classes, as listed."""
        classes = [first, *others]
        for name in classes:
            self.require_class(name)
        highest = []
        for name in self.names():
            is_common = all([other in self.above[name] for other in classes])
            # A class stands behind all classes above it, so the higher ones have been taken.
            if is_common and not any([other in self.above[name] for other in highest]):
                highest.append(name)
        return highest

    def with_class(self, name, superclasses=()):
        """The hierarchy with one more class at the end."""
        if not is_name(name):
            raise InvalidName(name)
        if self.has_class(name):
            raise NameTaken(name)
        if not are_superclasses(superclasses, self.places):
            raise InvalidSuperclasses(superclasses)
        if len(self.rows) >= Hierarchy.LIMIT:
            raise TooMany(Hierarchy.LIMIT)
        return Hierarchy([*self.rows, (name, superclasses)])

    def without_class(self, name):
        """The hierarchy without a class that is no superclass."""
        self.require_class(name)
        for other, superclasses in self.rows:
            if name in superclasses:
                raise InUse(other)
        return Hierarchy([row for row in self.rows if row[0] != name])
