"""Calls that must be decided, and deciding them."""

from fewestmethods.bodies import has_next_step
from fewestmethods.bodies import is_body
from fewestmethods.calls import AMBIGUOUS
from fewestmethods.calls import ANSWERED
from fewestmethods.calls import next_expansions
from fewestmethods.calls import outcome
from fewestmethods.calls import status
from fewestmethods.errors import InvalidBody
from fewestmethods.errors import NotAConflict
from fewestmethods.expansions import different_expansions
from fewestmethods.expansions import lowest_within
from fewestmethods.expansions import points_above
from fewestmethods.points import all_points
from fewestmethods.points import highest
from fewestmethods.points import listed
from fewestmethods.points import points_at_or_below
from fewestmethods.tables import MethodTable


def ambiguous_points(table):
    """The ambiguous points of a table, as listed."""
    # A property reaches this function, so it iterates a list and not the generator of calls.py.
    every = all_points(table.hierarchy(), table.count())
    return [point for point in every if status(table, point) == AMBIGUOUS]


def conflicts(table):
    """The highest ambiguous points of a table, as listed."""
    return highest(table.hierarchy(), ambiguous_points(table))


def is_settled(table):
    """Whether no point of a table is ambiguous."""
    return len(ambiguous_points(table)) == 0


def require_deciding_body(table, body):
    """Raises InvalidBody if the value is not a body without a next step."""
    if not is_body(body, table.count()) or has_next_step(body):
        raise InvalidBody(body)


def methods_to_write_out(table, point, body):
    """The methods with a next step whose next would change with one more method, as listed."""
    above = points_above(table.hierarchy(), listed(table.hierarchy(), [*table.points(), point]))
    # Writing out keeps the expansions, so those of the other methods stay as they are.
    expansions = {other: table.expansions[other] for other in table.points()}
    expansions[point] = body
    found = []
    for other in table.points():
        nexts = different_expansions(lowest_within(above[other], above), expansions)
        if has_next_step(table.body(other)) and nexts != next_expansions(table, other):
            found.append(other)
    return found


def with_method_and_writing_out(table, point, body):
    """The table with one more method, all other methods keeping their expansions."""
    bodies = {other: table.body(other) for other in table.points()}
    for other in methods_to_write_out(table, point, body):
        bodies[other] = table.expansions[other]
    bodies[point] = body
    return MethodTable(table.hierarchy(), table.count(), bodies)


def answered_calls(table, points):
    """A dict from those of the points that are answered to their expansions."""
    calls = {}
    for point in points:
        word, steps = outcome(table, point)
        if word == ANSWERED:
            calls[point] = steps
    return calls


def first_changed(table, calls):
    """The first point that is not answered as in a dict from points to expansions, or None."""
    for point, steps in calls.items():
        if outcome(table, point) != (ANSWERED, steps):
            return point
    return None


def decided(table, point, body):
    """The table in which a conflict is decided, its keepers, and what was written out."""
    # A method changes calls at or below its point only, so all keepers stand below the conflict.
    calls = answered_calls(table, points_at_or_below(table.hierarchy(), point))
    later = with_method_and_writing_out(table, point, body)
    keepers = []
    keeper = first_changed(later, calls)
    while keeper is not None:
        keepers.append(keeper)
        later = with_method_and_writing_out(later, keeper, calls[keeper])
        keeper = first_changed(later, calls)
    written = [other for other in table.points() if later.body(other) != table.body(other)]
    return later, listed(table.hierarchy(), keepers), written


def decide(table, point, body):
    """Decides a conflict: the table, the list of the keepers, the list of what was written out."""
    table.require_point(point)
    if point not in conflicts(table):
        raise NotAConflict(point)
    require_deciding_body(table, body)
    return decided(table, point, body)


def settle(table, body):
    """Decides the first conflict again and again: the table, the list of the decided points."""
    require_deciding_body(table, body)
    later = table
    points = []
    found = conflicts(later)
    while len(found) > 0:
        later = decided(later, found[0], body)[0]
        points.append(found[0])
        found = conflicts(later)
    return later, points
