"""Tables of methods."""

from fewestmethods.bodies import is_body
from fewestmethods.errors import InUse
from fewestmethods.errors import InvalidBody
from fewestmethods.errors import InvalidCount
from fewestmethods.errors import InvalidMethods
from fewestmethods.errors import InvalidPoint
from fewestmethods.errors import NotFound
from fewestmethods.errors import TooMany
from fewestmethods.expansions import expansions_of
from fewestmethods.expansions import points_above
from fewestmethods.points import is_parameter_count
from fewestmethods.points import is_point
from fewestmethods.points import is_point_of_length
from fewestmethods.points import listed


def require_methods(hierarchy, count, methods):
    """Raises InvalidMethods if the value is not a dict from points to bodies."""
    if not isinstance(methods, dict):
        raise InvalidMethods("dict", None)
    for point, body in methods.items():
        if not is_point_of_length(hierarchy, point, count):
            raise InvalidMethods("point", point)
        if not is_body(body, count):
            raise InvalidMethods("body", point)


class MethodTable:
    """A hierarchy, a parameter count, and methods: points with bodies. It never changes."""

    LIMIT = 40

    def __init__(self, hierarchy, count, methods=None):
        if not MethodTable.is_count(count):
            raise InvalidCount(count)
        given = {} if methods is None else methods
        require_methods(hierarchy, count, given)
        if len(given) > MethodTable.LIMIT:
            raise TooMany(MethodTable.LIMIT)
        self.own_hierarchy = hierarchy
        self.own_count = count
        self.bodies = {point: given[point] for point in listed(hierarchy, list(given))}
        self.above = points_above(hierarchy, list(self.bodies))
        self.expansions = expansions_of(self.bodies, self.above)

    @staticmethod
    def is_count(value):
        """Whether the value is an integer from 1 to 3."""
        return is_parameter_count(value)

    def __eq__(self, other):
        if not isinstance(other, MethodTable):
            return False
        if self.own_hierarchy != other.own_hierarchy or self.own_count != other.own_count:
            return False
        return self.bodies == other.bodies

    def __len__(self):
        return len(self.bodies)

    def __repr__(self):
        return f"MethodTable({self.own_count}, {self.bodies!r})"

    def hierarchy(self):
        """The hierarchy."""
        return self.own_hierarchy

    def count(self):
        """The parameter count."""
        return self.own_count

    def points(self):
        """The list of the points of the methods, as listed."""
        return list(self.bodies)

    def has_method(self, value):
        """Whether the value is the point of a method."""
        # Only points are looked up, because other values may have no hash.
        return is_point(self.own_hierarchy, value) and value in self.bodies

    def require_method(self, value):
        """Raises NotFound if the value is not the point of a method."""
        if not self.has_method(value):
            raise NotFound(value)

    def require_point(self, value):
        """Raises InvalidPoint if the value is not a point of the table."""
        if not is_point_of_length(self.own_hierarchy, value, self.own_count):
            raise InvalidPoint(value)

    def body(self, point):
        """The body of a method."""
        self.require_method(point)
        return self.bodies[point]

    def with_method(self, point, body):
        """The table in which the method at the point has this body."""
        self.require_point(point)
        if not is_body(body, self.own_count):
            raise InvalidBody(body)
        bodies = {other: self.bodies[other] for other in self.bodies}
        bodies[point] = body
        return MethodTable(self.own_hierarchy, self.own_count, bodies)

    def without_method(self, point):
        """The table without the method at the point."""
        self.require_method(point)
        bodies = {other: self.bodies[other] for other in self.bodies if other != point}
        return MethodTable(self.own_hierarchy, self.own_count, bodies)

    def with_class(self, name, superclasses=()):
        """The table with the same methods and one more class."""
        return MethodTable(self.own_hierarchy.with_class(name, superclasses), self.own_count, self.bodies)

    def without_class(self, name):
        """The table with the same methods and without a class that stands in none of their points."""
        smaller = self.own_hierarchy.without_class(name)
        for point in self.bodies:
            if name in point:
                raise InUse(point)
        return MethodTable(smaller, self.own_count, self.bodies)
