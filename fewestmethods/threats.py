"""Pairs of methods that a later class could bring into conflict."""

from fewestmethods.expansions import lowest_within
from fewestmethods.expansions import points_within


def future_rivals(table, first, second):
    """The rivals at a point just below two methods, as listed."""
    table.require_method(first)
    table.require_method(second)
    hierarchy = table.hierarchy()
    # Above a new class stand just the classes at or above one of the two; so it is for the lower one of two, too.
    choices = [hierarchy.ancestors(one) + hierarchy.ancestors(other) for one, other in zip(first, second)]
    return lowest_within(points_within(table.points(), choices), table.above)


def is_threat(table, first, second):
    """Whether two methods have different expansions and are both among their future rivals."""
    found = future_rivals(table, first, second)
    return table.expansions[first] != table.expansions[second] and first in found and second in found


def threats(table):
    """All threats, as tuples of two points, as listed."""
    points = table.points()
    found = []
    for at, first in enumerate(points):
        for second in points[at + 1:]:
            if is_threat(table, first, second):
                found.append((first, second))
    return found


def is_safe(table):
    """Whether a table has no threat."""
    return len(threats(table)) == 0
