"""Dispatchers: functions with their tables over one hierarchy, and sites that watch calls."""

from fewestmethods.calls import call
from fewestmethods.conflicts import ambiguous_points
from fewestmethods.conflicts import answered_calls
from fewestmethods.conflicts import decide
from fewestmethods.errors import InUse
from fewestmethods.errors import InvalidCount
from fewestmethods.errors import InvalidName
from fewestmethods.errors import NameTaken
from fewestmethods.errors import NotFound
from fewestmethods.errors import TooMany
from fewestmethods.errors import Unsettled
from fewestmethods.names import is_name
from fewestmethods.points import all_points
from fewestmethods.points import points_at_or_below
from fewestmethods.receipts import covered_points
from fewestmethods.receipts import has_class_in_receipt
from fewestmethods.receipts import is_covered
from fewestmethods.receipts import receipt_at
from fewestmethods.reduction import reduced
from fewestmethods.tables import MethodTable


def points_with_class(table, name):
    """The points of a table that contain a class, as listed."""
    return [point for point in all_points(table.hierarchy(), table.count()) if name in point]


class Dispatcher:
    """A hierarchy, functions with tables of this hierarchy, and open sites."""

    MAX_FUNCTIONS = 8
    MAX_SITES = 20

    def __init__(self, hierarchy):
        self.own_hierarchy = hierarchy
        self.tables = {}
        self.open_sites = {}
        self.next_number = 1

    def __eq__(self, other):
        if not isinstance(other, Dispatcher):
            return False
        if self.own_hierarchy != other.own_hierarchy or self.open_sites != other.open_sites:
            return False
        # The order of the functions counts, which dicts do not compare.
        return list(self.tables.items()) == list(other.tables.items())

    def __len__(self):
        return len(self.tables)

    @property
    def is_settled(self):
        """Whether all tables are settled now."""
        return all([len(ambiguous_points(table)) == 0 for table in self.tables.values()])

    def clone(self):
        """An independent copy, with the same sites and the same next number."""
        twin = Dispatcher(self.own_hierarchy)
        twin.take_state_of(self)
        return twin

    def take_state_of(self, other):
        """Takes over the tables, the sites and the next number of a dispatcher with the same hierarchy."""
        self.tables = {function: other.tables[function] for function in other.tables}
        self.open_sites = {number: other.open_sites[number] for number in other.open_sites}
        self.next_number = other.next_number

    def hierarchy(self):
        """The hierarchy."""
        return self.own_hierarchy

    def functions(self):
        """The list of the functions, in the order in which they were added."""
        return list(self.tables)

    def table(self, function):
        """The table of a function."""
        # Only strings are looked up, because other values may have no hash.
        if not isinstance(function, str) or function not in self.tables:
            raise NotFound(function)
        return self.tables[function]

    def call(self, function, point):
        """The expansion that answers the call of a function at a point."""
        return call(self.table(function), point)

    def add_function(self, name, count):
        """Adds a function without methods."""
        if not is_name(name):
            raise InvalidName(name)
        if name in self.tables:
            raise NameTaken(name)
        if not MethodTable.is_count(count):
            raise InvalidCount(count)
        if len(self.tables) >= Dispatcher.MAX_FUNCTIONS:
            raise TooMany(Dispatcher.MAX_FUNCTIONS)
        self.tables[name] = MethodTable(self.own_hierarchy, count)

    def define(self, function, point, body):
        """Adds or replaces a method; returns the numbers of the sites that end."""
        return self.edit(function, point, self.table(function).with_method(point, body))

    def drop(self, function, point):
        """Removes a method; returns the numbers of the sites that end."""
        return self.edit(function, point, self.table(function).without_method(point))

    def edit(self, function, point, table):
        """Replaces a table by one that differs in the method at a point; returns the numbers of the sites that end."""
        self.tables[function] = table
        # A method changes calls at or below its point only.
        return self.end_sites(self.changed_sites(function, points_at_or_below(self.own_hierarchy, point)))

    def add_class(self, name, superclasses=()):
        """Adds a class; returns the numbers of the sites that end."""
        self.own_hierarchy = self.own_hierarchy.with_class(name, superclasses)
        self.tables = {function: table.with_class(name, superclasses) for function, table in self.tables.items()}
        ended = []
        for function, table in self.tables.items():
            # The calls at all other points stay as they are.
            ended.extend(self.changed_sites(function, points_with_class(table, name)))
        return self.end_sites(sorted(ended))

    def remove_class(self, name):
        """Removes a class; returns the numbers of the sites that end."""
        smaller = self.own_hierarchy.without_class(name)
        for function, table in self.tables.items():
            if any([name in point for point in table.points()]):
                raise InUse(function)
        self.own_hierarchy = smaller
        self.tables = {function: table.without_class(name) for function, table in self.tables.items()}
        # No call that is left changes.
        return self.end_sites([n for n, row in self.open_sites.items() if has_class_in_receipt(row[1], name)])

    def decide(self, function, point, body):
        """Decides a conflict; returns the list of the keepers and the list of what was written out."""
        later, keepers, written = decide(self.table(function), point, body)
        self.tables[function] = later
        return keepers, written

    def reduce(self, function):
        """Reduces a table; returns the points of the removed methods, as listed."""
        table = self.table(function)
        smaller = reduced(table)
        self.tables[function] = smaller
        return [point for point in table.points() if not smaller.has_method(point)]

    def watch(self, function, point):
        """Opens a site for the call at a point and returns its number."""
        table = self.table(function)
        receipt = receipt_at(table, point)
        steps = call(table, point)
        covered = covered_points(table, receipt)
        calls = answered_calls(table, covered)
        for other in covered:
            if calls.get(other) != steps:
                raise Unsettled(other)
        if len(self.open_sites) >= Dispatcher.MAX_SITES:
            raise TooMany(Dispatcher.MAX_SITES)
        number = self.next_number
        self.open_sites[number] = (function, receipt, steps)
        self.next_number = number + 1
        return number

    def sites(self):
        """The rising list of the numbers of the open sites."""
        return list(self.open_sites)

    def site(self, number):
        """The function, the receipt and the expansion of an open site."""
        if not isinstance(number, int) or isinstance(number, bool) or number not in self.open_sites:
            raise NotFound(number)
        return self.open_sites[number]

    def changed_sites(self, function, points):
        """The rising list of the sites of a function whose expansion does not answer a covered one of the points."""
        watching = [number for number, row in self.open_sites.items() if row[0] == function]
        # Without sites there is no need to look at the calls, of which there may be thousands.
        calls = answered_calls(self.tables[function], points if len(watching) > 0 else [])
        found = []
        for number in watching:
            receipt, steps = self.open_sites[number][1:]
            changed = [point for point in points if calls.get(point) != steps]
            if any([is_covered(self.own_hierarchy, receipt, point) for point in changed]):
                found.append(number)
        return found

    def end_sites(self, numbers):
        """Ends sites; returns their numbers."""
        self.open_sites = {n: self.open_sites[n] for n in self.open_sites if n not in numbers}
        return numbers
