"""Modules linked to dispatchers."""

from fewestmethods.conflicts import conflicts
from fewestmethods.dispatcher import Dispatcher
from fewestmethods.errors import InvalidModules
from fewestmethods.errors import NoNext
from fewestmethods.errors import NotFound
from fewestmethods.hierarchy import Hierarchy
from fewestmethods.modules import Module
from fewestmethods.modules import class_names
from fewestmethods.modules import function_names
from fewestmethods.modules import has_wrong_class
from fewestmethods.modules import has_wrong_function
from fewestmethods.modules import has_wrong_method
from fewestmethods.tables import MethodTable

MAX_MODULES = 8


class LinkedDispatcher(Dispatcher):
    """A dispatcher that knows which module each method comes from."""

    def __init__(self, hierarchy, tables, owners):
        Dispatcher.__init__(self, hierarchy)
        self.tables = {function: tables[function] for function in tables}
        self.owners = {place: owners[place] for place in owners}

    def clone(self):
        """An independent copy, with the same sites, the same next number and the same owners."""
        twin = LinkedDispatcher(self.own_hierarchy, self.tables, self.owners)
        twin.take_state_of(self)
        return twin

    def owner(self, function, point):
        """The name of the module that a method comes from, or None if it was added or replaced after linking."""
        self.table(function).require_method(point)
        return self.owners.get((function, point))

    def define(self, function, point, body):
        """Adds or replaces a method; returns the numbers of the sites that end."""
        ended = super().define(function, point, body)
        self.forget_owners(function, [point])
        return ended

    def decide(self, function, point, body):
        """Decides a conflict; returns the list of the keepers and the list of what was written out."""
        keepers, written = super().decide(function, point, body)
        self.forget_owners(function, [point, *keepers, *written])
        return keepers, written

    def forget_owners(self, function, points):
        """Forgets which modules the methods at some points came from."""
        # A method that is removed needs no forgetting: only these two edits could bring it back.
        gone = {(function, point): True for point in points}
        self.owners = {place: self.owners[place] for place in self.owners if place not in gone}


def require_list(modules):
    """Raises InvalidModules if the value is not a list of one to eight modules with different names."""
    if not isinstance(modules, list) or not 1 <= len(modules) <= MAX_MODULES:
        raise InvalidModules("list", "")
    if not all([isinstance(module, Module) for module in modules]):
        raise InvalidModules("list", "")
    names = [module.name() for module in modules]
    for position, name in enumerate(names):
        if name in names[:position]:
            raise InvalidModules("duplicate", name)


def require_imports_in_list(modules):
    """Raises InvalidModules if a module imports what is not in the list, or itself, also indirectly."""
    names = [module.name() for module in modules]
    for module in modules:
        if not all([name in names for name in module.imports()]):
            raise InvalidModules("import", module.name())
    for module in modules:
        if module.name() in [other.name() for other in imported_by(modules, module)]:
            raise InvalidModules("cycle", module.name())


def imported_by(modules, module):
    """The modules that a module imports directly or indirectly, in the order of the list."""
    by_name = {one.name(): one for one in modules}
    found = {}
    waiting = list(module.imports())
    while len(waiting) > 0:
        name = waiting.pop()
        if name not in found:
            found[name] = True
            waiting.extend(by_name[name].imports())
    return [one for one in modules if one.name() in found]


def require_parts_that_fit(modules):
    """Raises InvalidModules if a class, a function or a method does not fit to the others."""
    for module in modules:
        if has_wrong_class(module, imported_by(modules, module), modules):
            raise InvalidModules("class", module.name())
    for module in modules:
        if has_wrong_function(module, modules):
            raise InvalidModules("function", module.name())
    for module in modules:
        if has_wrong_method(module, imported_by(modules, module)):
            raise InvalidModules("method", module.name())


def require_room(modules):
    """Raises InvalidModules if there are more classes, functions or methods than a dispatcher can have."""
    if len(class_names(modules)) > Hierarchy.LIMIT or len(function_names(modules)) > Dispatcher.MAX_FUNCTIONS:
        raise InvalidModules("many", "")
    used = [method[0] for module in modules for method in module.methods()]
    for function in function_names(modules):
        if len([name for name in used if name == function]) > MethodTable.LIMIT:
            raise InvalidModules("many", "")


def in_link_order(modules):
    """The modules in link order."""
    by_name = {module.name(): module for module in modules}
    waiting = sorted(list(by_name))
    taken = []
    while len(waiting) > 0:
        ready = [name for name in waiting if all([other in taken for other in by_name[name].imports()])]
        taken.append(ready[0])
        waiting.remove(ready[0])
    return [by_name[name] for name in taken]


def linked_in_order(ordered):
    """The dispatcher that is linked from modules that stand in link order."""
    hierarchy = Hierarchy([row for module in ordered for row in module.classes()])
    bodies = {function: {} for function in function_names(ordered)}
    owners = {}
    for module in ordered:
        for function, point, body in module.methods():
            bodies[function][point] = body
            owners[(function, point)] = module.name()
    tables = {}
    for module in ordered:
        for function, count in module.functions():
            tables[function] = MethodTable(hierarchy, count, bodies[function])
    return LinkedDispatcher(hierarchy, tables, owners)


def view_in_order(ordered, module):
    """The view of a module, where the modules of its system stand in link order."""
    names = [one.name() for one in [*imported_by(ordered, module), module]]
    # What a module imports keeps its order when the other modules are left out.
    return linked_in_order([one for one in ordered if one.name() in names])


def system_in_order(modules):
    """The modules of a system in link order. Raises InvalidModules if the value is not a system."""
    require_list(modules)
    require_imports_in_list(modules)
    require_parts_that_fit(modules)
    require_room(modules)
    ordered = in_link_order(modules)
    for module in ordered:
        try:
            view_in_order(ordered, module)
        except NoNext:
            # The imported modules came before, and all methods above theirs stand in their own views.
            raise InvalidModules("next", module.name())
    return ordered


def module_called(ordered, name):
    """The module with a name."""
    by_name = {module.name(): module for module in ordered}
    # Only strings are looked up, because other values may have no hash.
    if not isinstance(name, str) or name not in by_name:
        raise NotFound(name)
    return by_name[name]


def link_order(modules):
    """The names of the modules in link order."""
    return [module.name() for module in system_in_order(modules)]


def linked(modules):
    """The dispatcher that is linked from all modules."""
    return linked_in_order(system_in_order(modules))


def view_of(modules, name):
    """The view of a module: what is linked from it and from all modules that it imports."""
    ordered = system_in_order(modules)
    return view_in_order(ordered, module_called(ordered, name))


def own_removals(modules, name):
    """The functions and points of those methods of a module that are removed when its view is reduced."""
    view = view_of(modules, name)
    removed = []
    for function in view.functions():
        points = view.reduce(function)
        removed.extend([(function, point) for point in points if view.owners[(function, point)] == name])
    return removed


def link_conflicts(modules):
    """The functions and points of all conflicts of the linked tables."""
    dispatcher = linked(modules)
    return [(name, point) for name in dispatcher.functions() for point in conflicts(dispatcher.table(name))]
