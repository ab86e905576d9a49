"""Tables compared by their calls."""

from fewestmethods.calls import outcome
from fewestmethods.errors import Unlike
from fewestmethods.points import all_points
from fewestmethods.points import highest


def changed_points(first, second):
    """The points at which the calls of two tables that are like each other differ, as listed."""
    if first.hierarchy() != second.hierarchy() or first.count() != second.count():
        raise Unlike()
    every = all_points(first.hierarchy(), first.count())
    return [point for point in every if outcome(first, point) != outcome(second, point)]


def is_equal_in_calls(first, second):
    """Whether two tables have the same call at every point."""
    return len(changed_points(first, second)) == 0


def highest_changes(first, second):
    """The highest points at which the calls of two tables differ, as listed."""
    return highest(first.hierarchy(), changed_points(first, second))
