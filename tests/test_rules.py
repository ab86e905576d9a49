"""The code of the package: sizes, characters, imports, names, and where the interface is defined."""

import ast
import builtins
import pathlib
import re
import unittest

PACKAGE = pathlib.Path(__file__).resolve().parent.parent / "fewestmethods"

INTERFACE = {
    "errors.py": {"MethodsError": []},
    "names.py": {"is_name": None},
    "hierarchy.py": {
        "Hierarchy": [
            "__init__", "__eq__", "__len__", "__repr__", "__str__", "read", "of", "names", "has_class",
            "superclasses", "position_of", "is_at_or_below", "ancestors", "descendants", "highest_common",
            "with_class", "without_class", "LIMIT",
        ],
    },
    "points.py": {
        "MAX_PARAMETERS": None, "is_point": None, "is_point_at_or_below": None, "listed": None, "highest": None,
        "lowest": None, "all_points": None, "points_at_or_below": None, "highest_common_points": None,
    },
    "bodies.py": {"is_body": None},
    "tables.py": {
        "MethodTable": [
            "__init__", "__eq__", "__len__", "__repr__", "LIMIT", "is_count", "hierarchy", "count", "points",
            "has_method", "body", "with_method", "without_method", "with_class", "without_class",
        ],
    },
    "calls.py": {
        "applicable": None, "rivals": None, "just_above": None, "has_next": None, "expansion": None, "status": None,
        "answers": None, "call": None,
    },
    "reduction.py": {
        "is_redundant": None, "redundant_points": None, "reduced": None, "removals": None, "is_removal_list": None,
        "reason": None, "is_reason": None,
    },
    "comparison.py": {"is_equal_in_calls": None, "highest_changes": None},
    "conflicts.py": {"conflicts": None, "is_settled": None, "decide": None, "settle": None},
    "threats.py": {"future_rivals": None, "is_threat": None, "threats": None, "is_safe": None},
    "futures.py": {"class_plan": None, "is_class_plan": None, "conflicts_with_class": None},
    "receipts.py": {"receipt_at": None, "is_receipt": None, "covers": None, "covered_points": None},
    "dispatcher.py": {
        "Dispatcher": [
            "__init__", "__eq__", "__len__", "MAX_FUNCTIONS", "MAX_SITES", "is_settled", "clone", "hierarchy",
            "functions", "table", "call", "add_function", "define", "drop", "add_class", "remove_class", "decide",
            "reduce", "watch", "sites", "site",
        ],
    },
    "modules.py": {
        "Module": ["__init__", "__eq__", "__repr__", "name", "imports", "classes", "functions", "methods"],
    },
    "linking.py": {
        "MAX_MODULES": None, "LinkedDispatcher": ["owner", "clone"], "link_order": None, "linked": None,
        "view_of": None, "own_removals": None, "link_conflicts": None,
    },
    "running.py": {"MAX_RUN_STEPS": None, "run": None},
    "operations.py": {"is_operation": None, "write_operation": None, "read_operation": None},
    "sessions.py": {
        "Session": [
            "__init__", "__eq__", "__len__", "__str__", "operations", "dispatcher", "clone", "read", "perform",
            "perform_all", "undo", "redo", "can_undo", "can_redo", "run_limit", "run",
        ],
    },
    "console.py": {"Console": ["__init__", "execute", "session"]},
}

BARRED_WORDS = (
    "type typing typing_extensions enum Enum IntEnum StrEnum Flag IntFlag Generic Protocol ABC ABCMeta namedtuple "
    "NamedTuple TypedDict TYPE_CHECKING abstractmethod"
).split()
NEVER_USED = (
    "register mro elements open input law version_info with_traceback add_note attrgetter breakpoint builtins compile "
    "copyright credits delattr dir eval exec exit gc getattr globals hasattr help id importlib license locals "
    "methodcaller os quit setattr type vars sys format format_map args sort"
).split()
BUILTINS = (
    "len range enumerate zip min max sum abs sorted reversed int str bool list tuple dict set isinstance ord repr any "
    "all divmod iter next super property staticmethod classmethod ValueError KeyError IndexError LookupError "
    "ArithmeticError RuntimeError"
).split()
BUILTIN_METHODS = (
    "append clear copy count endswith extend find get index insert isalnum isalpha isdigit islower isspace isupper "
    "items join keys ljust lower lstrip partition pop remove replace reverse rfind rjust rpartition rsplit rstrip "
    "setdefault split splitlines startswith strip update upper values zfill add discard __init__"
).split()


def bound_names(tree):
    """Every name that a file binds, at any place."""
    found = []
    for node in ast.walk(tree):
        if isinstance(node, (ast.FunctionDef, ast.ClassDef)):
            found.append(node.name)
        elif isinstance(node, ast.arg):
            found.append(node.arg)
        elif isinstance(node, ast.Name) and isinstance(node.ctx, ast.Store):
            found.append(node.id)
        elif isinstance(node, ast.alias):
            found.append(node.asname or node.name)
        elif isinstance(node, ast.ExceptHandler) and node.name:
            found.append(node.name)
    return found


def defined_names(body):
    """The names of the functions, classes and values of a module or a class."""
    found = []
    for node in body:
        if isinstance(node, (ast.FunctionDef, ast.ClassDef)):
            found.append(node.name)
        elif isinstance(node, ast.Assign):
            found.extend(target.id for target in node.targets)
    return found


def decorator_name(node):
    """The last word of a decorator."""
    return node.attr if isinstance(node, ast.Attribute) else node.id


def is_read_only(node):
    """Whether a function is one that is read without a call, or by a sign: a property or one of four methods."""
    words = [decorator_name(one) for one in node.decorator_list]
    return "property" in words or node.name in ("__eq__", "__len__", "__repr__", "__str__")


def used_words(node):
    """The names and the attributes that a function reads."""
    names = {part.id for part in ast.walk(node) if isinstance(part, ast.Name)}
    return names | {part.attr for part in ast.walk(node) if isinstance(part, ast.Attribute)}


def reached(functions, first):
    """The function first and all that it may use, directly or through others; those of one name count as one."""
    found = [first]
    # What is found is looked at in its turn.
    for node in found:
        words = used_words(node)
        found.extend(one for one in functions if one.name in words and one not in found)
    return found


class RulesTest(unittest.TestCase):
    @classmethod
    def setUpClass(cls):
        cls.texts = {path.name: path.read_text() for path in sorted(PACKAGE.glob("*.py"))}
        cls.trees = {name: ast.parse(text) for name, text in cls.texts.items()}

    def test_the_folder_contains_nothing_else(self):
        others = [path.name for path in PACKAGE.iterdir() if path.suffix != ".py" and path.name != "__pycache__"]
        self.assertEqual(others, [])
        self.assertIn("__init__.py", self.texts)
        for name in self.texts:
            self.assertRegex(name, r"\A(__init__|__main__|[a-z][a-z0-9_]*)\.py\Z")

    def test_sizes_and_characters(self):
        for name, text in self.texts.items():
            lines = text.split("\n")
            self.assertLessEqual(len(lines), 399, name)
            self.assertLessEqual(max(len(line) for line in lines), 120, name)
            self.assertRegex(text, r"\A[ -~\n]*\Z", name)
            for node in ast.walk(self.trees[name]):
                if isinstance(node, ast.FunctionDef):
                    self.assertLessEqual(node.end_lineno - node.lineno + 1, 40, node.name)

    def test_barred_words(self):
        for name, text in self.texts.items():
            words = set(re.findall(r"[A-Za-z_]+", text))
            self.assertEqual(words & set(BARRED_WORDS), set(), name)

    def test_imports_name_the_file_that_defines_the_name(self):
        for name, tree in self.trees.items():
            for node in ast.walk(tree):
                self.assertNotIsInstance(node, ast.Import, name)
                if isinstance(node, ast.ImportFrom):
                    folder, file = node.module.split(".")
                    self.assertEqual((folder, node.level), ("fewestmethods", 0))
                    for alias in node.names:
                        self.assertIn(alias.name, defined_names(self.trees[file + ".py"].body))

    def test_names(self):
        for name, tree in self.trees.items():
            bound = bound_names(tree)
            for one in bound:
                self.assertRegex(one, r"\A([A-Za-z]\w*|__[a-z]+__)\Z", name)
                self.assertNotIn(one, BUILTINS, name)
            used = {node.id for node in ast.walk(tree) if isinstance(node, ast.Name)}
            self.assertEqual(used - set(bound) - set(BUILTINS), set(), name)

    def test_no_parameter_or_local_variable_hides_an_import_or_a_class(self):
        for name, tree in self.trees.items():
            outer = [alias.name for node in tree.body if isinstance(node, ast.ImportFrom) for alias in node.names]
            outer.extend(node.name for node in tree.body if isinstance(node, ast.ClassDef))
            for node in ast.walk(tree):
                if isinstance(node, ast.FunctionDef):
                    inner = set(bound_names(node)) - {node.name}
                    self.assertEqual(inner & set(outer), set(), (name, node.name))
                    self.assertEqual(inner & set(dir(builtins)), set(), (name, node.name))

    def test_generators_are_iterated_at_once(self):
        generators = [
            node.name
            for tree in self.trees.values()
            for node in ast.walk(tree)
            if isinstance(node, ast.FunctionDef) and any(isinstance(part, ast.Yield) for part in ast.walk(node))
        ]
        self.assertEqual(sorted(generators), ["answers", "removals"])
        for name, tree in self.trees.items():
            iterated = [node.iter for node in ast.walk(tree) if isinstance(node, (ast.For, ast.comprehension))]
            for node in ast.walk(tree):
                if isinstance(node, ast.Call) and isinstance(node.func, ast.Name) and node.func.id in generators:
                    self.assertIn(node, iterated, name)

    def test_what_is_read_iterates_no_generator_and_assigns_no_part(self):
        # The setter of a property has its name, but is not what is read.
        functions = [
            node
            for tree in self.trees.values()
            for node in ast.walk(tree)
            if isinstance(node, ast.FunctionDef) and "setter" not in map(decorator_name, node.decorator_list)
        ]
        first = [node for node in functions if is_read_only(node)]
        names = {node.name for node in first}
        self.assertLessEqual({"is_settled", "can_undo", "can_redo", "run_limit", "__eq__", "__str__"}, names)
        for node in first:
            for one in reached(functions, node):
                for part in ast.walk(one):
                    self.assertNotIsInstance(part, (ast.Yield, ast.YieldFrom, ast.GeneratorExp), (node.name, one.name))
                    if isinstance(part, (ast.Attribute, ast.Subscript)):
                        self.assertIsInstance(part.ctx, ast.Load, (node.name, one.name))

    def test_methods_that_are_called(self):
        own = set(BUILTIN_METHODS)
        for tree in self.trees.values():
            for node in ast.walk(tree):
                if isinstance(node, ast.ClassDef):
                    own.update(defined_names(node.body))
        for name, tree in self.trees.items():
            for node in ast.walk(tree):
                if isinstance(node, ast.Call) and isinstance(node.func, ast.Attribute):
                    self.assertIn(node.func.attr, own, name)

    def test_no_name_is_a_method_and_an_attribute(self):
        methods, attributes, settable = set(), set(), set()
        for tree in self.trees.values():
            for node in ast.walk(tree):
                if isinstance(node, ast.ClassDef):
                    methods.update(defined_names(node.body))
                elif isinstance(node, ast.Attribute) and isinstance(node.ctx, ast.Store):
                    attributes.add(node.attr)
                elif isinstance(node, ast.FunctionDef) and "setter" in map(decorator_name, node.decorator_list):
                    settable.add(node.name)
        # A property with a setter is assigned like an attribute.
        self.assertEqual(methods & attributes, settable)

    def test_decorators(self):
        found = {}
        for tree in self.trees.values():
            for node in ast.walk(tree):
                if isinstance(node, ast.FunctionDef) and node.decorator_list:
                    self.assertEqual(len(node.decorator_list), 1, node.name)
                    found.setdefault(decorator_name(node.decorator_list[0]), []).append(node.name)
                elif isinstance(node, ast.ClassDef):
                    self.assertEqual(node.decorator_list, [], node.name)
        self.assertLessEqual(set(found), {"staticmethod", "classmethod", "property", "setter"})
        # The names of the others are not names of plain methods.
        methods = {
            one.name
            for tree in self.trees.values()
            for node in ast.walk(tree)
            if isinstance(node, ast.ClassDef)
            for one in node.body
            if isinstance(one, ast.FunctionDef) and not one.decorator_list
        }
        self.assertEqual(methods & {name for names in found.values() for name in names}, set())

    def test_names_that_are_not_used(self):
        barred = set(NEVER_USED)
        for name, tree in self.trees.items():
            used = set(bound_names(tree))
            for node in ast.walk(tree):
                if isinstance(node, ast.Attribute):
                    used.add(node.attr)
                elif isinstance(node, ast.keyword) and node.arg:
                    used.add(node.arg)
            self.assertEqual(used & barred, set(), name)

    def test_is_only_with_none(self):
        for name, tree in self.trees.items():
            for node in ast.walk(tree):
                if isinstance(node, ast.Compare):
                    for sign, other in zip(node.ops, node.comparators):
                        if isinstance(sign, (ast.Is, ast.IsNot)):
                            self.assertIsInstance(other, ast.Constant, name)
                            self.assertIn(other.value, (None, True, False), name)

    def test_expressions_that_are_not_used(self):
        barred = (
            ast.Div, ast.GeneratorExp, ast.Set, ast.SetComp, ast.Global, ast.AsyncFunctionDef, ast.Await, ast.Match,
            ast.NamedExpr, ast.AnnAssign, ast.YieldFrom,
        )
        for name, tree in self.trees.items():
            for node in ast.walk(tree):
                self.assertNotIsInstance(node, barred, (name, getattr(node, "lineno", None)))
                if isinstance(node, ast.Constant):
                    self.assertNotIsInstance(node.value, (float, complex, bytes), name)
                    self.assertNotIn("%", str(node.value), name)

    def test_sets_stand_in_len_only(self):
        for name, tree in self.trees.items():
            inside = [
                node.args[0]
                for node in ast.walk(tree)
                if isinstance(node, ast.Call) and isinstance(node.func, ast.Name) and node.func.id == "len"
            ]
            for node in ast.walk(tree):
                if isinstance(node, ast.Call) and isinstance(node.func, ast.Name) and node.func.id == "set":
                    self.assertIn(node, inside, name)

    def test_views_are_iterated_on_the_spot(self):
        at_once = ("list", "tuple", "sorted", "dict", "enumerate", "zip")
        for name, tree in self.trees.items():
            iterated = [node.iter for node in ast.walk(tree) if isinstance(node, (ast.For, ast.comprehension))]
            for node in ast.walk(tree):
                if isinstance(node, ast.Call) and isinstance(node.func, ast.Name) and node.func.id in at_once:
                    iterated.extend(node.args)
            for node in ast.walk(tree):
                if isinstance(node, ast.Call):
                    called = node.func.attr if isinstance(node.func, ast.Attribute) else getattr(node.func, "id", "")
                    if called in ("items", "values", "keys", "zip", "enumerate", "reversed", "range"):
                        self.assertIn(node, iterated, (name, node.lineno))

    def test_no_two_files_import_from_each_other(self):
        needed = {
            name: {node.module.split(".")[1] + ".py" for node in tree.body if isinstance(node, ast.ImportFrom)}
            for name, tree in self.trees.items()
        }
        for _ in needed:
            needed = {name: files.union(*[needed[file] for file in files]) for name, files in needed.items()}
        for name, files in needed.items():
            self.assertNotIn(name, files)

    def test_double_underscore_methods_change_nothing(self):
        for name, tree in self.trees.items():
            for node in ast.walk(tree):
                if isinstance(node, ast.FunctionDef) and node.name in ("__eq__", "__len__", "__repr__", "__str__"):
                    self.assertIsInstance(node.body[-1], ast.Return, name)
                    for part in ast.walk(node):
                        self.assertNotIsInstance(part, (ast.Assign, ast.AugAssign, ast.Delete), (name, node.name))

    def test_the_interface_is_defined_where_it_belongs(self):
        for name, parts in INTERFACE.items():
            body = self.trees[name].body
            self.assertLessEqual(set(parts), set(defined_names(body)), name)
            for node in body:
                if isinstance(node, ast.ClassDef) and parts.get(node.name):
                    self.assertLessEqual(set(parts[node.name]), set(defined_names(node.body)), node.name)

    def test_the_package_itself_binds_nothing(self):
        self.assertEqual(defined_names(self.trees["__init__.py"].body), [])


if __name__ == "__main__":
    unittest.main()
