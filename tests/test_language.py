"""The files of the package keep to the rules of the language, as far as a look at the code can tell."""

import ast
import builtins
import io
import re
import tokenize
import unittest
from pathlib import Path

PACKAGE = Path(__file__).resolve().parent.parent / "guardwords"
FILES = sorted(PACKAGE.glob("*.py"))

LIBRARY = {
    "heapq": {"heappush", "heappop", "heapify", "heapreplace", "heappushpop"},
    "math": {"gcd", "lcm", "isqrt", "comb", "perm", "factorial"},
}
CALLED = {
    "len", "range", "enumerate", "zip", "min", "max", "sum", "abs", "sorted", "reversed", "int", "str", "bool", "list",
    "tuple", "dict", "set", "isinstance", "repr", "any", "all", "divmod", "super", "ValueError", "classmethod",
    "property", "iter",
}
METHODS = {
    "append", "clear", "copy", "count", "endswith", "extend", "find", "get", "index", "insert", "items", "join", "keys",
    "pop", "remove", "reverse", "setdefault", "startswith", "update", "values",
}
BARRED_NAMES = {
    "mro", "elements", "open", "input", "law", "version_info", "with_traceback", "add_note", "register", "attrgetter",
    "breakpoint", "builtins", "compile", "copyright", "credits", "delattr", "dir", "eval", "exec", "exit", "gc", "globals",
    "help", "id", "importlib", "license", "locals", "methodcaller", "os", "quit", "vars", "sys",
}
BARRED_WORDS = {
    "type", "typing", "typing_extensions", "enum", "Enum", "IntEnum", "StrEnum", "Flag", "IntFlag", "Generic", "Protocol",
    "ABC", "ABCMeta", "namedtuple", "NamedTuple", "TypedDict", "TYPE_CHECKING", "abstractmethod",
}
BARRED_NODES = (
    ast.AsyncFunctionDef, ast.AsyncFor, ast.AsyncWith, ast.Await, ast.Global, ast.Nonlocal, ast.Try, ast.TryStar, ast.With,
    ast.Div, ast.MatMult, ast.NamedExpr, ast.AnnAssign, ast.JoinedStr, ast.Assert, ast.Delete,
)
METHOD_NAMES = ("__init__", "__len__", "__iter__", "__contains__")
READ_AT_ONCE = {"list", "tuple", "dict", "sorted", "sum", "min", "max", "any", "all"}
ONCE = {"zip", "enumerate", "reversed"}


def parsed(path):
    return ast.parse(path.read_text())


def code_words(path):
    """The words of a file outside of comments and docstrings."""
    text = path.read_text()
    docstrings = set()
    for node in ast.walk(ast.parse(text)):
        if isinstance(node, (ast.Module, ast.ClassDef, ast.FunctionDef)) and ast.get_docstring(node) is not None:
            docstrings.add(node.body[0].lineno)
    for token in tokenize.generate_tokens(io.StringIO(text).readline):
        if token.type == tokenize.COMMENT or token.type == tokenize.STRING and token.start[0] in docstrings:
            continue
        yield from re.findall(r"\w+", token.string)


def bound_names(tree):
    """The names that are bound anywhere in the tree, with their lines."""
    for node in ast.walk(tree):
        if isinstance(node, ast.Name) and not isinstance(node.ctx, ast.Load):
            yield node.id, node.lineno
        elif isinstance(node, (ast.FunctionDef, ast.ClassDef)):
            yield node.name, node.lineno
        elif isinstance(node, ast.arg):
            yield node.arg, node.lineno
        elif isinstance(node, ast.alias):
            yield node.name, node.lineno


def called_name(node):
    return node.func.id if isinstance(node, ast.Call) and isinstance(node.func, ast.Name) else None


def iterated(node):
    """What a loop over this iterates over."""
    if called_name(node) in ("enumerate", "zip", "reversed"):
        return [part for argument in node.args for part in iterated(argument)]
    if isinstance(node, ast.Call) and isinstance(node.func, ast.Attribute) and node.func.attr in ("items", "keys", "values"):
        return iterated(node.func.value)
    return [node]


class Language(unittest.TestCase):
    def each(self, wanted):
        for path in FILES:
            for node in ast.walk(parsed(path)):
                if isinstance(node, wanted):
                    yield path.name, node

    def test_files(self):
        self.assertIn(PACKAGE / "__init__.py", FILES)
        for path in PACKAGE.iterdir():
            self.assertTrue(path in FILES or path.name == "__pycache__", path)
            self.assertRegex(path.name, r"^[a-z_]+(\.py)?$")

    def test_sizes_and_characters(self):
        for path in FILES:
            lines = path.read_text().split("\n")
            self.assertLessEqual(len(lines) - 1, 399, path)
            for line in lines:
                self.assertLessEqual(len(line), 120, (path, line))
                self.assertRegex(line, r"^[ -~]*$")
        for name, node in self.each(ast.FunctionDef):
            self.assertLessEqual(node.end_lineno - node.lineno + 1, 40, (name, node.name))

    def test_statements_at_module_level(self):
        for path in FILES:
            for at, node in enumerate(parsed(path).body):
                docstring = at == 0 and isinstance(node, ast.Expr) and isinstance(node.value, ast.Constant)
                table = isinstance(node, ast.Assign) and len(node.targets) == 1 and isinstance(node.targets[0], ast.Name)
                if table:
                    ast.literal_eval(node.value)
                self.assertTrue(docstring or table or isinstance(node, (ast.ImportFrom, ast.FunctionDef, ast.ClassDef)))

    def test_imports(self):
        own = {"guardwords." + path.stem: {name for name, _ in bound_names(parsed(path))} for path in FILES}
        for path in FILES:
            for node in ast.walk(parsed(path)):
                self.assertNotIsInstance(node, ast.Import)
                if isinstance(node, ast.ImportFrom):
                    known = own.get(node.module) or LIBRARY[node.module]
                    self.assertEqual(node.level, 0)
                    for alias in node.names:
                        self.assertIsNone(alias.asname)
                        self.assertIn(alias.name, known)

    def test_names_are_imported_from_the_file_that_defines_them_and_used(self):
        defined = {path.stem: {getattr(n, "name", None) or n.targets[0].id for n in parsed(path).body
                               if isinstance(n, (ast.FunctionDef, ast.ClassDef, ast.Assign))} for path in FILES}
        for path in FILES:
            used = {node.id for node in ast.walk(parsed(path)) if isinstance(node, ast.Name)}
            for node in parsed(path).body:
                if isinstance(node, ast.ImportFrom):
                    for alias in node.names:
                        self.assertIn(alias.name, used, path)
                        if node.module.startswith("guardwords."):
                            self.assertIn(alias.name, defined[node.module[11:]])

    def test_no_circles_of_imports(self):
        after = {}
        for path in FILES:
            after[path.stem] = {node.module[11:] for node in parsed(path).body
                                if isinstance(node, ast.ImportFrom) and node.module.startswith("guardwords.")}
        while after:
            free = [name for name, needs in after.items() if not needs & set(after)]
            self.assertTrue(free, after)
            for name in free:
                del after[name]

    def test_no_barred_statements_and_signs(self):
        for name, node in self.each(BARRED_NODES):
            self.fail((name, node.lineno, ast.dump(node)[:60]))
        for name, node in self.each(ast.Constant):
            self.assertNotIsInstance(node.value, (float, complex, bytes), (name, node.lineno))
            if isinstance(node.value, str):
                self.assertNotIn("%", node.value)
        for name, node in self.each(ast.Compare):
            for operator, right in zip(node.ops, node.comparators):
                if isinstance(operator, (ast.Is, ast.IsNot)):
                    self.assertIsInstance(right, ast.Constant, (name, node.lineno))
        for name, node in self.each(ast.BinOp):
            if isinstance(node.op, ast.Pow):
                self.assertIsInstance(node.right, ast.Constant, (name, node.lineno))

    def test_functions_and_classes(self):
        for name, node in self.each((ast.FunctionDef, ast.ClassDef)):
            allowed = {"property", "staticmethod", "classmethod"}
            self.assertLessEqual({decorator.id for decorator in node.decorator_list}, allowed)
            self.assertTrue(node.name in METHOD_NAMES or not node.name.startswith("__"), (name, node.name))
            if not node.name.startswith("_"):
                self.assertIsNotNone(ast.get_docstring(node), (name, node.name))

    def test_builtins(self):
        for name, node in self.each(ast.Name):
            if isinstance(node.ctx, ast.Load) and hasattr(builtins, node.id):
                self.assertIn(node.id, CALLED, (name, node.lineno))

    def test_names(self):
        for path in FILES:
            imported = {alias.name for node in parsed(path).body if isinstance(node, ast.ImportFrom) for alias in node.names}
            classes = {node.name for node in parsed(path).body if isinstance(node, ast.ClassDef)}
            for node in parsed(path).body:
                if isinstance(node, ast.ImportFrom):
                    continue
                for bound, line in bound_names(node):
                    self.assertFalse(hasattr(builtins, bound) and bound != "__init__", (path.name, line, bound))
                    self.assertNotIn(bound, BARRED_NAMES | imported, (path.name, line))
                    self.assertTrue(bound not in classes or bound == getattr(node, "name", None), (path.name, line, bound))
            tops = [name for node in parsed(path).body for name, _ in
                    (bound_names(node) if isinstance(node, ast.ImportFrom) else [])]
            tops += [getattr(node, "name", None) or node.targets[0].id for node in parsed(path).body
                     if isinstance(node, (ast.FunctionDef, ast.ClassDef, ast.Assign))]
            self.assertEqual(len(tops), len(set(tops)), path.name)

    def test_words(self):
        for path in FILES:
            self.assertFalse(BARRED_WORDS & set(code_words(path)), path.name)
            for word in ("dataclass", "overload", "contextmanager", "_wall", "_WallAttr"):
                self.assertNotIn(word, path.read_text())

    def test_methods_that_are_called(self):
        own = {node.name for _, node in self.each(ast.FunctionDef)}
        for name, node in self.each(ast.Call):
            if isinstance(node.func, ast.Attribute):
                self.assertIn(node.func.attr, METHODS | own, (name, node.lineno))

    def test_attributes_are_assigned_and_are_no_methods(self):
        methods, stored = {}, {}
        for name, node in self.each(ast.ClassDef):
            for inner in ast.walk(node):
                if isinstance(inner, ast.FunctionDef):
                    methods.setdefault(inner.name, set()).add(node.name)
                if isinstance(inner, ast.Attribute) and isinstance(inner.ctx, ast.Store):
                    stored.setdefault(inner.attr, set()).add(node.name)
        self.assertFalse(set(methods) & set(stored))
        for name, node in self.each(ast.Attribute):
            self.assertTrue(node.attr in METHODS or node.attr in methods or node.attr in stored, (name, node.attr))

    def test_generator_expressions_stand_alone_in_a_call(self):
        for path in FILES:
            tree = parsed(path)
            fitting = [node.args[0] for node in ast.walk(tree)
                       if called_name(node) in READ_AT_ONCE - {"sorted"} and len(node.args) == 1 and not node.keywords]
            for node in ast.walk(tree):
                if isinstance(node, ast.GeneratorExp):
                    self.assertIn(node, fitting, (path.name, node.lineno))

    def test_sets_stand_in_sorted_or_len(self):
        for path in FILES:
            tree = parsed(path)
            fitting = [node.args[0] for node in ast.walk(tree) if called_name(node) in ("sorted", "len") and not node.keywords]
            for node in ast.walk(tree):
                if isinstance(node, (ast.Set, ast.SetComp)) or called_name(node) == "set":
                    self.assertIn(node, fitting, (path.name, node.lineno))

    def test_zips_and_the_like_are_iterated_at_once(self):
        for path in FILES:
            tree = parsed(path)
            fitting = [node.iter for node in ast.walk(tree) if isinstance(node, (ast.For, ast.comprehension))]
            fitting += [node.args[0] for node in ast.walk(tree) if called_name(node) in READ_AT_ONCE and node.args]
            for node in ast.walk(tree):
                if called_name(node) in ONCE:
                    self.assertIn(node, fitting, (path.name, node.lineno))
                if isinstance(node, ast.Starred):
                    self.assertIsInstance(node.value, (ast.Name, ast.Attribute), (path.name, node.lineno))

    def test_comprehensions_do_not_share_names(self):
        kinds = (ast.ListComp, ast.SetComp, ast.DictComp, ast.GeneratorExp)
        for name, node in self.each(kinds):
            outer = {bound for told in node.generators for bound, _ in bound_names(told.target)} - {"_"}
            for inner in ast.walk(node):
                if isinstance(inner, kinds) and inner is not node:
                    shared = outer & {bound for told in inner.generators for bound, _ in bound_names(told.target)}
                    self.assertFalse(shared, (name, node.lineno))

    def test_what_is_iterated_is_not_modified(self):
        modifying = ("append", "clear", "extend", "insert", "pop", "remove", "reverse", "setdefault", "update")
        for name, node in self.each(ast.For):
            over = {ast.dump(part) for part in ast.walk(node.iter) if isinstance(part, (ast.Name, ast.Attribute))}
            for inner in [part for row in node.body for part in ast.walk(row)]:
                if isinstance(inner, ast.Call) and isinstance(inner.func, ast.Attribute) and inner.func.attr in modifying:
                    self.assertNotIn(ast.dump(inner.func.value), over, (name, node.lineno))

    def test_items_of_what_is_iterated_are_not_assigned(self):
        for name, node in self.each(ast.For):
            over = {ast.dump(part) for part in iterated(node.iter)}
            for inner in [part for row in node.body for part in ast.walk(row)]:
                if isinstance(inner, ast.Subscript) and not isinstance(inner.ctx, ast.Load):
                    self.assertNotIn(ast.dump(inner.value), over, (name, node.lineno))

    def test_desk_defines_what_the_interface_lists(self):
        listed = {
            "put", "drop", "undo", "made", "definition", "role", "weight", "users", "least", "takes", "results", "compare", "same", "leads",
            "log", "__len__", "__iter__", "__contains__", "__init__",
        }
        desk = [node for _, node in self.each(ast.ClassDef) if node.name == "Desk"][0]
        found = {node.name: [told.id for told in node.decorator_list] for node in desk.body if isinstance(node, ast.FunctionDef)}
        self.assertLessEqual(listed, set(found))
        self.assertEqual({name: told for name, told in found.items() if told}, {"made": ["classmethod"], "log": ["property"]})

    def test_interface_is_defined_in_its_files(self):
        listed = {
            "terms": "check_term gives is_plain there before given_letters put_behind", "parting": "part constant",
            "translations": "check_translation results domain restricted inverse behind image source",
            "agreement": "double_steps ends_together delays check_delays", "differences": "disagreement second_result same",
            "leading": "leads lead_table check_lead safe", "writing": "certain doubt written", "desks": "Desk",
        }
        for stem, names in listed.items():
            defined = {node.name for node in parsed(PACKAGE / (stem + ".py")).body if isinstance(node, (ast.FunctionDef, ast.ClassDef))}
            self.assertLessEqual(set(names.split()), defined)

    def test_lambdas_on_one_line_have_different_names(self):
        lines = {}
        for name, node in self.each(ast.Lambda):
            told = (name, node.lineno, tuple(arg.arg for arg in node.args.args))
            self.assertNotIn(told, lines)
            lines[told] = True


if __name__ == "__main__":
    unittest.main()
