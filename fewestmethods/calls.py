"""The methods that apply at a point, and the call there."""

from fewestmethods.errors import Ambiguous
from fewestmethods.errors import NoMethod
from fewestmethods.expansions import different_expansions
from fewestmethods.expansions import lowest_within
from fewestmethods.expansions import points_within
from fewestmethods.points import all_points

NO_CALL = "none"
ANSWERED = "answered"
AMBIGUOUS = "ambiguous"


def applicable(table, point):
    """The points of the methods that are applicable at a point, as listed."""
    table.require_point(point)
    return points_within(table.points(), [table.hierarchy().ancestors(name) for name in point])


def rivals(table, point):
    """The lowest points of the applicable methods, as listed."""
    return lowest_within(applicable(table, point), table.above)


def just_above(table, point):
    """The lowest points of the methods above a point, as listed."""
    return lowest_within([other for other in applicable(table, point) if other != point], table.above)


def next_expansions(table, point):
    """The different expansions of the methods just above a point."""
    return different_expansions(just_above(table, point), table.expansions)


def has_next(table, point):
    """Whether a method has a next."""
    table.require_method(point)
    return len(next_expansions(table, point)) == 1


def expansion(table, point):
    """The body of a method, with the next step replaced."""
    table.require_method(point)
    return table.expansions[point]


def outcome(table, point):
    """The status at a point, and the expansion that answers the call, or None."""
    found = different_expansions(rivals(table, point), table.expansions)
    if len(found) == 0:
        return NO_CALL, None
    if len(found) == 1:
        return ANSWERED, found[0]
    return AMBIGUOUS, None


def status(table, point):
    """The word for what happens at a point: none, answered or ambiguous."""
    return outcome(table, point)[0]


def answers(table):
    """Yields each point of the table with its status, as listed."""
    for point in all_points(table.hierarchy(), table.count()):
        yield (point, status(table, point))


def call(table, point):
    """The expansion that answers the call at a point."""
    word, steps = outcome(table, point)
    if word == NO_CALL:
        raise NoMethod(point)
    if word == AMBIGUOUS:
        raise Ambiguous(point, rivals(table, point))
    return steps
