"""Receipts: where the method that answers a call is a rival."""

from fewestmethods.calls import call
from fewestmethods.calls import rivals
from fewestmethods.errors import InvalidReceipt
from fewestmethods.points import has_one_within
from fewestmethods.points import highest
from fewestmethods.points import is_point_of_length
from fewestmethods.points import is_within
from fewestmethods.points import points_at_or_below


def receipt_of(table, point):
    """The receipt of a method: its point, and the highest points of the methods below it."""
    below = [other for other in table.points() if point in table.above[other]]
    return point, tuple(highest(table.hierarchy(), below))


def receipt_at(table, point):
    """The receipt for the call at a point."""
    # Only an answered call has a receipt; otherwise this raises.
    call(table, point)
    return receipt_of(table, rivals(table, point)[0])


def points_of(receipt):
    """The point of a receipt and its fences, as one list."""
    point, fences = receipt
    return [point, *fences]


def has_form_of_receipt(table, value):
    """Whether the value is a tuple of a point of the table and of a tuple of such points."""
    if not isinstance(value, tuple) or len(value) != 2 or not isinstance(value[1], tuple):
        return False
    return all([is_point_of_length(table.hierarchy(), point, table.count()) for point in points_of(value)])


def is_receipt(table, value):
    """Whether the value is a receipt of the table."""
    if not has_form_of_receipt(table, value) or not table.has_method(value[0]):
        return False
    return value == receipt_of(table, value[0])


def require_receipt(table, value):
    """Raises InvalidReceipt if the value does not have the form of a receipt."""
    if not has_form_of_receipt(table, value):
        raise InvalidReceipt(value)


def is_covered(hierarchy, receipt, point):
    """Whether a point is at or below the point of a receipt, and at or below no fence."""
    above, fences = receipt
    choices = [hierarchy.ancestors(name) for name in point]
    return is_within(above, choices) and not has_one_within(fences, choices)


def covers(table, receipt, point):
    """Whether the receipt covers a point."""
    require_receipt(table, receipt)
    table.require_point(point)
    return is_covered(table.hierarchy(), receipt, point)


def covered_points(table, receipt):
    """All points that the receipt covers, as listed."""
    require_receipt(table, receipt)
    below = points_at_or_below(table.hierarchy(), receipt[0])
    return [point for point in below if is_covered(table.hierarchy(), receipt, point)]


def has_class_in_receipt(receipt, name):
    """Whether a class stands in the point of a receipt or in one of its fences."""
    return any([name in point for point in points_of(receipt)])
