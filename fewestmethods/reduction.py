"""Redundant methods, and tables without them."""

from fewestmethods.calls import just_above
from fewestmethods.calls import next_expansions


def is_redundant(table, point):
    """Whether a method has a next, and its expansion is that of the methods just above."""
    table.require_method(point)
    return next_expansions(table, point) == [table.expansions[point]]


def redundant_points(table):
    """The points of all redundant methods, as listed."""
    return [point for point in table.points() if is_redundant(table, point)]


def removals(table):
    """Yields the points of a removal list: each time the first redundant method of what is left."""
    left = table
    redundant = redundant_points(left)
    while len(redundant) > 0:
        yield redundant[0]
        left = left.without_method(redundant[0])
        redundant = redundant_points(left)


def reduced(table):
    """The table that is left when no method is redundant any more."""
    left = table
    for point in removals(table):
        left = left.without_method(point)
    return left


def is_removal_list(table, value):
    """Whether the value is a removal list of the table."""
    if not isinstance(value, list):
        return False
    left = table
    for point in value:
        if not left.has_method(point) or not is_redundant(left, point):
            return False
        left = left.without_method(point)
    return len(redundant_points(left)) == 0


def splits(table, points):
    """The reasons with two of these points whose methods have different expansions."""
    found = []
    for at, first in enumerate(points):
        for second in points[at + 1:]:
            if table.expansions[first] != table.expansions[second]:
                found.append(("split", first, second))
    return found


def all_reasons(table, point):
    """All reasons for a method: none if it is redundant."""
    if is_redundant(table, point):
        return []
    above = just_above(table, point)
    if len(above) == 0:
        return [("top",)]
    if len(next_expansions(table, point)) == 1:
        return [("differs", above[0])]
    return splits(table, above)


def reason(table, point):
    """A reason for a method that is not redundant, None for one that is."""
    reasons = all_reasons(table, point)
    return reasons[0] if len(reasons) > 0 else None


def is_reason(table, point, value):
    """Whether the value is a reason for a method."""
    return value in all_reasons(table, point)
