"""The methods above each other, and their expansions. All lists of points are as listed."""

from fewestmethods.bodies import has_next_step
from fewestmethods.bodies import with_next_replaced
from fewestmethods.errors import NoNext
from fewestmethods.points import is_within


def points_within(points, choices):
    """The points each of whose classes stands in the list at the same index."""
    return [point for point in points if is_within(point, choices)]


def points_above(hierarchy, points):
    """A dict that gives for each of the points the list of those above it."""
    above = {}
    for point in points:
        choices = [hierarchy.ancestors(name) for name in point]
        above[point] = [other for other in points_within(points, choices) if other != point]
    return above


def lowest_within(points, above):
    """The lowest of some points, where above gives for each of them at least all others above it."""
    higher = {other: True for point in points for other in above[point]}
    return [point for point in points if point not in higher]


def different_expansions(points, expansions):
    """The expansions of the methods at the points, each once."""
    found = []
    for point in points:
        if expansions[point] not in found:
            found.append(expansions[point])
    return found


def expansions_of(bodies, above):
    """A dict from the points of the methods, whose bodies stand as listed, to their expansions."""
    expansions = {}
    # A point is listed behind all points above it, so their expansions are known.
    for point, body in bodies.items():
        expansions[point] = body
        if has_next_step(body):
            nexts = different_expansions(lowest_within(above[point], above), expansions)
            if len(nexts) != 1:
                raise NoNext(point)
            expansions[point] = with_next_replaced(body, nexts[0])
    return expansions
