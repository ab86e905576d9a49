"""Points, the combinations of classes that methods belong to."""

from fewestmethods.errors import InvalidCount
from fewestmethods.errors import InvalidPoint
from fewestmethods.errors import InvalidPoints
from fewestmethods.names import are_names

MAX_PARAMETERS = 3


def is_parameter_count(value):
    """Whether the value is an integer from 1 to 3."""
    return isinstance(value, int) and not isinstance(value, bool) and 1 <= value <= MAX_PARAMETERS


def has_form_of_point(value):
    """Whether the value is a tuple of one to three names, be they classes or not."""
    return are_names(value) and is_parameter_count(len(value))


def is_point(hierarchy, value):
    """Whether the value is a tuple of one to three classes."""
    if not isinstance(value, tuple) or not is_parameter_count(len(value)):
        return False
    return all([hierarchy.has_class(name) for name in value])


def is_point_of_length(hierarchy, value, count):
    """Whether the value is a point of count classes."""
    return is_point(hierarchy, value) and len(value) == count


def require_point(hierarchy, value):
    """Raises InvalidPoint if the value is not a point."""
    if not is_point(hierarchy, value):
        raise InvalidPoint(value)


def require_point_like(hierarchy, value, first):
    """Raises InvalidPoint if the value is not a point of the length of the point first."""
    require_point(hierarchy, value)
    if len(value) != len(first):
        raise InvalidPoint(value)


def require_points(hierarchy, points):
    """Raises InvalidPoints if the value is not a list of points of one length."""
    if not isinstance(points, list):
        raise InvalidPoints(0)
    for position, point in enumerate(points):
        if not is_point(hierarchy, point) or len(point) != len(points[0]):
            raise InvalidPoints(position)


def is_within(point, choices):
    """Whether each class of a point stands in the list at the same index."""
    for name, names in zip(point, choices):
        if name not in names:
            return False
    return True


def has_one_within(points, choices):
    """Whether each class of one of the points stands in the list at the same index."""
    for point in points:
        if is_within(point, choices):
            return True
    return False


def combinations(choices):
    """All tuples of one item from each list, those with an earlier first item first, and so on."""
    rows = [()]
    for names in choices:
        rows = [(*row, name) for row in rows for name in names]
    return rows


def is_point_at_or_below(hierarchy, first, second):
    """Whether the point first is at or below the point second."""
    require_point(hierarchy, first)
    require_point_like(hierarchy, second, first)
    return all([hierarchy.is_at_or_below(name, other) for name, other in zip(first, second)])


def listed(hierarchy, points):
    """The points of a list in listed order, each once."""
    require_points(hierarchy, points)
    different = {point: True for point in points}
    return sorted(list(different), key=lambda point: [hierarchy.position_of(name) for name in point])


def highest(hierarchy, points):
    """The highest points of a list, as listed."""
    chosen = []
    for point in listed(hierarchy, points):
        # A point is listed behind all points above it, so the higher ones have been chosen.
        if not has_one_within(chosen, [hierarchy.ancestors(name) for name in point]):
            chosen.append(point)
    return chosen


def lowest(hierarchy, points):
    """The lowest points of a list, as listed."""
    chosen = []
    for point in reversed(listed(hierarchy, points)):
        # Backwards, the points below a point come before it, so the lower ones have been chosen.
        if not has_one_within(chosen, [hierarchy.descendants(name) for name in point]):
            chosen.append(point)
    return chosen[::-1]


def all_points(hierarchy, count):
    """All points of a length, as listed."""
    if not is_parameter_count(count):
        raise InvalidCount(count)
    return combinations([hierarchy.names()] * count)


def points_at_or_below(hierarchy, point):
    """All points at or below a point, as listed."""
    require_point(hierarchy, point)
    return combinations([hierarchy.descendants(name) for name in point])


def highest_common_points(hierarchy, first, *others):
    """The highest common points of one or more points, as listed."""
    require_point(hierarchy, first)
    for point in others:
        require_point_like(hierarchy, point, first)
    return combinations([hierarchy.highest_common(*column) for column in zip(first, *others)])
