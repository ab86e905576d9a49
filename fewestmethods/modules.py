"""Modules, and how the parts of one fit to those of the modules that it imports."""

from fewestmethods.bodies import is_body
from fewestmethods.errors import InvalidModule
from fewestmethods.names import are_names
from fewestmethods.names import is_name
from fewestmethods.points import MAX_PARAMETERS
from fewestmethods.points import has_form_of_point
from fewestmethods.points import is_parameter_count


def is_class_part(value):
    """Whether the value is a tuple of a name and of a tuple of different names."""
    if not isinstance(value, tuple) or len(value) != 2:
        return False
    name, superclasses = value
    return is_name(name) and are_names(superclasses) and len(set(superclasses)) == len(superclasses)


def is_function_part(value):
    """Whether the value is a tuple of a name and of a parameter count."""
    return isinstance(value, tuple) and len(value) == 2 and is_name(value[0]) and is_parameter_count(value[1])


def is_method_part(value):
    """Whether the value is a tuple of a name, of one to three names, and of a body for three parameters."""
    if not isinstance(value, tuple) or len(value) != 3:
        return False
    function, point, body = value
    return is_name(function) and has_form_of_point(point) and is_body(body, MAX_PARAMETERS)


def require_imports(name, imports):
    """Raises InvalidModule if the value is not a tuple of different names of other modules."""
    if not isinstance(imports, tuple):
        raise InvalidModule("imports", 0)
    for position, other in enumerate(imports):
        if not is_name(other) or other == name or other in imports[:position]:
            raise InvalidModule("import", position)


def require_parts(parts, problem_of_all, problem_of_one, is_part):
    """Raises InvalidModule if the value is not a tuple of parts that a function accepts."""
    if not isinstance(parts, tuple):
        raise InvalidModule(problem_of_all, 0)
    for position, part in enumerate(parts):
        if not is_part(part):
            raise InvalidModule(problem_of_one, position)


class Module:
    """Classes, functions and methods, and the names of the modules that they need. It never changes."""

    def __init__(self, name, *, imports=(), classes=(), functions=(), methods=()):
        if not is_name(name):
            raise InvalidModule("name", 0)
        require_imports(name, imports)
        require_parts(classes, "classes", "class", is_class_part)
        require_parts(functions, "functions", "function", is_function_part)
        require_parts(methods, "methods", "method", is_method_part)
        self.own_name = name
        self.own_imports = imports
        self.own_classes = classes
        self.own_functions = functions
        self.own_methods = methods

    def __eq__(self, other):
        if not isinstance(other, Module) or self.own_name != other.own_name or self.own_imports != other.own_imports:
            return False
        if self.own_classes != other.own_classes or self.own_functions != other.own_functions:
            return False
        return self.own_methods == other.own_methods

    def __repr__(self):
        return f"Module({self.own_name!r})"

    def name(self):
        """The name."""
        return self.own_name

    def imports(self):
        """The tuple of the names of the modules that are imported directly."""
        return self.own_imports

    def classes(self):
        """The tuple of the classes, tuples of a name and of superclasses."""
        return self.own_classes

    def functions(self):
        """The tuple of the functions, tuples of a name and of a parameter count."""
        return self.own_functions

    def methods(self):
        """The tuple of the methods, tuples of a function, a point and a body."""
        return self.own_methods


def class_names(modules):
    """The names of the classes that the modules own, in sequence."""
    return [part[0] for module in modules for part in module.classes()]


def function_names(modules):
    """The names of the functions that the modules own, in sequence."""
    return [part[0] for module in modules for part in module.functions()]


def repeated(names):
    """The names that stand in a list more than once."""
    return [name for at, name in enumerate(names) if name in names[:at]]


def has_wrong_class(module, imported, modules):
    """Whether a class is not the only one of its name, or has a superclass that the module does not see before it."""
    known = class_names(imported)
    taken = repeated(class_names(modules))
    for name, superclasses in module.classes():
        if name in taken or not all([other in known for other in superclasses]):
            return True
        known.append(name)
    return False


def has_wrong_function(module, modules):
    """Whether a function is not the only one of its name."""
    taken = repeated(function_names(modules))
    return any([name in taken for name in function_names([module])])


def is_fitting_method(module, seen, method):
    """Whether a method of a module fits to the classes and functions of the modules that it sees."""
    function, point, body = method
    counts = {name: count for one in seen for name, count in one.functions()}
    known = class_names(seen)
    if function not in counts or not all([name in known for name in point]):
        return False
    own = class_names([module])
    if function not in function_names([module]) and not any([name in own for name in point]):
        return False
    return len(point) == counts[function] and is_body(body, counts[function])


def has_wrong_method(module, imported):
    """Whether a method does not fit to what the module sees, or has the function and point of another one."""
    seen = [*imported, module]
    if not all([is_fitting_method(module, seen, method) for method in module.methods()]):
        return True
    places = [method[:2] for method in module.methods()]
    return len(set(places)) < len(places)
