"""Later classes: plans that bring a threat into conflict, and the conflicts of one more class."""

from fewestmethods.calls import rivals
from fewestmethods.conflicts import conflicts
from fewestmethods.errors import InvalidHierarchy
from fewestmethods.errors import NotAThreat
from fewestmethods.errors import TooMany
from fewestmethods.hierarchy import Hierarchy
from fewestmethods.names import LETTERS
from fewestmethods.points import is_point_of_length
from fewestmethods.tables import MethodTable
from fewestmethods.threats import is_threat


def require_threat(table, first, second):
    """Raises NotAThreat if two methods are not a threat."""
    if not is_threat(table, first, second):
        raise NotAThreat(first, second)


def lower_one(hierarchy, one, other):
    """The one of two classes that is at or below the other one, or None."""
    if hierarchy.is_at_or_below(one, other):
        return one
    if hierarchy.is_at_or_below(other, one):
        return other
    return None


def class_plan(table, first, second):
    """A plan for a threat: a list of new classes, and a point."""
    require_threat(table, first, second)
    hierarchy = table.hierarchy()
    # Of the letters at least six are free, because there are at most twenty classes.
    free = [letter for letter in LETTERS if not hierarchy.has_class(letter)]
    classes = []
    names = []
    for one, other in zip(first, second):
        name = lower_one(hierarchy, one, other)
        if name is None:
            name = free[len(classes)]
            classes.append((name, (one, other)))
        names.append(name)
    if len(hierarchy) + len(classes) > Hierarchy.LIMIT:
        raise TooMany(Hierarchy.LIMIT)
    return classes, tuple(names)


def with_classes(table, classes):
    """The table with a list of classes added, or None if they cannot be added."""
    hierarchy = table.hierarchy()
    rows = [(name, hierarchy.superclasses(name)) for name in hierarchy.names()]
    try:
        larger = Hierarchy(rows + classes)
    except InvalidHierarchy:
        return None
    return MethodTable(larger, table.count(), {point: table.body(point) for point in table.points()})


def is_class_plan(table, first, second, value):
    """Whether the value is a plan for a threat."""
    require_threat(table, first, second)
    if not isinstance(value, tuple) or len(value) != 2:
        return False
    classes, point = value
    if not isinstance(classes, list):
        return False
    later = with_classes(table, classes)
    if later is None or not is_point_of_length(later.hierarchy(), point, later.count()):
        return False
    found = rivals(later, point)
    return first in found and second in found


def conflicts_with_class(table, name, superclasses=()):
    """The conflicts of the table with one more class, as listed."""
    return conflicts(table.with_class(name, superclasses))
