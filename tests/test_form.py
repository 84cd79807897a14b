"""The form of the package's files: those rows of the language rules that can be read off the code."""

import ast
import builtins
import pathlib
import re
import unittest

FOLDER = pathlib.Path(__file__).resolve().parent.parent / "bitrail"

BUILTINS = set(
    "len range enumerate zip min max sum abs sorted reversed int str bool list tuple dict set frozenset isinstance"
    " ord repr any all divmod Exception ValueError TypeError KeyError IndexError LookupError ZeroDivisionError"
    " ArithmeticError OverflowError RuntimeError NotImplementedError AttributeError StopIteration".split()
)
METHODS = set(
    "append clear copy count endswith extend find get index insert isalnum isalpha isdigit islower isspace isupper"
    " items join keys ljust lower lstrip partition pop remove replace reverse rfind rjust rpartition rsplit rstrip"
    " setdefault split splitlines startswith strip update upper values zfill bit_length".split()
)
DUNDERS = {"__init__", "__eq__", "__repr__", "__str__", "__len__"}
WORDS = re.compile(
    r"\b(type|typing|typing_extensions|enum|Enum|IntEnum|StrEnum|Flag|IntFlag|Generic|Protocol|ABC|ABCMeta|namedtuple"
    r"|NamedTuple|TypedDict|TYPE_CHECKING|abstractmethod)\b|dataclass|overload|contextmanager"
)
UNUSED = set("register mro elements open input version_info with_traceback add_note format format_map".split())
OUT = (
    ast.With, ast.Match, ast.Delete, ast.Global, ast.Nonlocal, ast.Assert, ast.Yield, ast.YieldFrom, ast.Await,
    ast.AsyncFunctionDef, ast.AsyncFor, ast.AsyncWith, ast.Import, ast.SetComp, ast.DictComp, ast.GeneratorExp,
    ast.NamedExpr, ast.Starred, ast.AnnAssign, ast.Div, ast.MatMult,
)


OWN_VALUES = set("count index title find get join lower upper split strip copy add".split())
OWN_METHODS = METHODS | {"add", "discard"}
OF_PYTHON = {name for kind in (str, int, list, dict, set, bytes, tuple) for name in dir(kind)}
WALKED = set("zip enumerate reversed range".split())
WALKERS = set("list tuple dict sorted sum any all enumerate zip min max join".split())
KEYWORDS = {
    "sorted": {"key", "reverse"}, "min": {"key", "default"}, "max": {"key", "default"}, "sum": {"start"},
    "enumerate": {"start"}, "zip": {"strict"},
}


def files():
    return sorted(FOLDER.rglob("*.py"))


def name_faults(tree):
    own = {node.name for node in ast.walk(tree) if isinstance(node, (ast.FunctionDef, ast.ClassDef))}
    for node in ast.walk(tree):
        if isinstance(node, ast.Name) and isinstance(node.ctx, ast.Store) and hasattr(builtins, node.id):
            yield node, f"a name of Python's own is bound: {node.id}"
        if isinstance(node, ast.arg) and hasattr(builtins, node.arg):
            yield node, f"a name of Python's own is bound: {node.arg}"
        if isinstance(node, ast.Name) and node.id not in own and hasattr(builtins, node.id):
            if node.id not in BUILTINS:
                yield node, f"a name that is not used: {node.id}"
        if isinstance(node, (ast.FunctionDef, ast.ClassDef)) and node.name not in DUNDERS:
            if node.name.startswith("_") or node.name in UNUSED:
                yield node, f"a name that is not plain: {node.name}"
        if isinstance(node, ast.Name) and node.id.startswith("_"):
            yield node, f"a name that is not plain: {node.id}"


def call_faults(tree, methods):
    for node in ast.walk(tree):
        if isinstance(node, ast.Attribute) and node.attr in UNUSED:
            yield node, f"an attribute that is not used: {node.attr}"
        if isinstance(node, ast.Call) and isinstance(node.func, ast.Attribute):
            if node.func.attr not in METHODS and node.func.attr not in methods:
                yield node, f"a method that is not used: {node.func.attr}"


def statement_faults(tree):
    for node in ast.walk(tree):
        if isinstance(node, OUT):
            yield node, f"not in the language: {node.__class__.__name__}"
        if isinstance(node, (ast.For, ast.While)) and node.orelse:
            yield node, "an else behind a loop"
        if isinstance(node, ast.Try) and (node.finalbody or any(one.type is None for one in node.handlers)):
            yield node, "a try of another form"
        if isinstance(node, ast.Assign) and (len(node.targets) > 1 or isinstance(node.targets[0], ast.Tuple)):
            yield node, "more than one target"
        if isinstance(node, ast.Compare) and any(isinstance(one, (ast.Is, ast.IsNot)) for one in node.ops):
            if not isinstance(node.comparators[0], ast.Constant):
                yield node, "is beside another thing than None, True or False"
        if isinstance(node, ast.Constant) and isinstance(node.value, (float, complex, bytes)):
            yield node, "a value of another kind"
        if isinstance(node, ast.BinOp) and isinstance(node.op, ast.Pow) and not isinstance(node.right, ast.Constant):
            yield node, "an exponent that is not written"
        if isinstance(node, ast.ListComp) and (len(node.generators) > 1 or len(node.generators[0].ifs) > 1):
            yield node, "a comprehension of another form"
        if isinstance(node, ast.FunctionDef):
            yield from function_faults(node)
        if isinstance(node, ast.ClassDef) and (node.decorator_list or len(node.bases) > 1 or node.keywords):
            yield node, "a class of another form"


def function_faults(node):
    handed = node.args
    if node.decorator_list or handed.vararg or handed.kwarg or handed.kwonlyargs or handed.posonlyargs:
        yield node, "a def of another form"
    if node.end_lineno - node.lineno + 1 > 40:
        yield node, "a def of more than 40 lines"


def is_plain_value(node, functions):
    if isinstance(node, ast.UnaryOp):
        node = node.operand
    if isinstance(node, (ast.List, ast.Tuple)):
        return all(is_plain_value(one, functions) for one in node.elts)
    if isinstance(node, ast.Dict):
        return all(is_plain_value(one, functions) for one in node.keys + node.values)
    return isinstance(node, ast.Constant) or isinstance(node, ast.Name) and node.id in functions


def top_faults(tree):
    functions = set()
    bound = []
    for place, node in enumerate(tree.body):
        if isinstance(node, ast.FunctionDef):
            functions.add(node.name)
        elif isinstance(node, ast.Assign) and not is_plain_value(node.value, functions):
            yield node, "no plain value at the top"
        elif isinstance(node, ast.Expr) and (place or not isinstance(node.value, ast.Constant)):
            yield node, "something is done at the top"
        elif not isinstance(node, (ast.ImportFrom, ast.ClassDef, ast.Assign, ast.Expr)):
            yield node, "not for the top of a file"
        bound += names_bound_by(node)
        if isinstance(node, ast.Assign):
            for inner in ast.walk(node.value):
                if isinstance(inner, (ast.List, ast.Dict)) and inner is not node.value:
                    yield node, "a list or dict within another"
    if len(set(bound)) != len(bound):
        yield tree.body[0], "a name is bound twice at the top"


def names_bound_by(node):
    if isinstance(node, (ast.FunctionDef, ast.ClassDef)):
        return [node.name]
    if isinstance(node, ast.ImportFrom):
        return [one.name for one in node.names]
    return [target.id for target in node.targets] if isinstance(node, ast.Assign) else []


def local_faults(tree):
    taken = [node.name for node in tree.body if isinstance(node, ast.ClassDef)]
    for node in drawn_from(tree):
        taken += [one.name for one in node.names]
    for function in ast.walk(tree):
        if isinstance(function, (ast.FunctionDef, ast.Lambda)):
            for node in ast.walk(function):
                if isinstance(node, ast.arg) and node.arg in taken:
                    yield node, f"a parameter called like a class or an import: {node.arg}"
                if isinstance(node, ast.Name) and isinstance(node.ctx, ast.Store) and node.id in taken:
                    yield node, f"a local called like a class or an import: {node.id}"


def walk_faults(tree):
    parents = {child: node for node in ast.walk(tree) for child in ast.iter_child_nodes(node)}
    for node in ast.walk(tree):
        if isinstance(node, ast.Call) and called(node) in WALKED | {"items", "keys", "values"}:
            over = parents[node]
            if isinstance(over, (ast.For, ast.comprehension)) and over.iter is node:
                continue
            if not (isinstance(over, ast.Call) and called(over) in WALKERS):
                yield node, f"not walked on the spot: {called(node)}"
        if isinstance(node, ast.Call) and called(node) == "set":
            over = parents[node]
            if not (isinstance(over, (ast.Compare, ast.BinOp)) or called(over) in ("len", "sorted")):
                yield node, "a set that is kept"
        if isinstance(node, ast.Set):
            yield node, "a set that is written out"
        if isinstance(node, ast.Call) and isinstance(node.func, ast.Name) and node.func.id in BUILTINS:
            if {one.arg for one in node.keywords} - KEYWORDS.get(node.func.id, set()):
                yield node, "a keyword that is not used"


def called(node):
    if not isinstance(node, ast.Call):
        return ""
    return node.func.id if isinstance(node.func, ast.Name) else getattr(node.func, "attr", "")


def text_faults(tree):
    joined = [part for node in ast.walk(tree) if isinstance(node, ast.JoinedStr) for part in node.values]
    for node in ast.walk(tree):
        if isinstance(node, ast.Constant) and isinstance(node.value, str) and "%" in node.value:
            yield node, "the sign for rests within a text"
        if isinstance(node, ast.FormattedValue) and not isinstance(node.value, ast.Name):
            yield node, "an f-string of another form"
        if isinstance(node, ast.FormattedValue) and (node.format_spec or node not in joined):
            yield node, "an f-string of another form"


def class_names(trees):
    """The methods and the values that the classes of the package have."""
    methods = set()
    values = set()
    for tree in trees:
        for node in ast.walk(tree):
            if isinstance(node, ast.ClassDef):
                methods |= {one.name for one in node.body if isinstance(one, ast.FunctionDef)}
            if isinstance(node, ast.Attribute) and isinstance(node.ctx, ast.Store):
                values.add(node.attr)
    return methods, values


def drawn_from(tree):
    return [node for node in ast.walk(tree) if isinstance(node, ast.ImportFrom)]


class FormTest(unittest.TestCase):
    def assert_none(self, path, faults):
        self.assertEqual([f"{path.name}:{node.lineno}: {fault}" for node, fault in faults], [])

    def test_the_folder_holds_plain_files_alone(self):
        self.assertTrue(FOLDER.joinpath("__init__.py").is_file())
        for path in FOLDER.rglob("*"):
            if "__pycache__" not in path.parts:
                self.assertRegex(path.name, r"^(__init__|__main__|[a-z][a-z0-9_]*)\.py$")

    def test_rows_and_signs(self):
        for path in files():
            text = path.read_bytes().decode("utf-8")
            self.assertRegex(text, r"\A[ -~\n]*\Z", path.name)
            self.assertLessEqual(len(text.splitlines()), 400, path.name)
            self.assertLessEqual(max([len(row) for row in text.splitlines()] + [0]), 120, path.name)
            self.assertIsNone(WORDS.search(text), path.name)

    def test_statements_names_and_calls(self):
        trees = {path: ast.parse(path.read_text("utf-8")) for path in files()}
        methods = class_names(trees.values())[0]
        for path, tree in trees.items():
            self.assert_none(path, top_faults(tree))
            self.assert_none(path, local_faults(tree))
            self.assert_none(path, walk_faults(tree))
            self.assert_none(path, text_faults(tree))
            self.assert_none(path, statement_faults(tree))
            self.assert_none(path, name_faults(tree))
            self.assert_none(path, call_faults(tree, methods))

    def test_methods_and_values_of_classes(self):
        methods, values = class_names([ast.parse(path.read_text("utf-8")) for path in files()])
        self.assertEqual(methods & values, set())
        self.assertEqual((methods - DUNDERS) & OF_PYTHON - OWN_METHODS, set())
        self.assertEqual(values & OF_PYTHON - OWN_VALUES, set())

    def test_imports(self):
        sources = {}
        for path in files():
            module = "bitrail." + path.stem
            rows = drawn_from(ast.parse(path.read_text("utf-8")))
            for row in rows:
                self.assertEqual(row.level, 0, path.name)
                self.assertRegex(row.module, r"^bitrail\.[a-z]", path.name)
                self.assertTrue(FOLDER.joinpath(row.module.split(".")[1] + ".py").is_file(), path.name)
                self.assertEqual([one.asname for one in row.names if one.asname or one.name == "*"], [])
            sources[module] = {row.module for row in rows}
        while sources:
            ready = [module for module in sources if not sources[module] & set(sources)]
            self.assertTrue(ready, f"files draw from one another: {sorted(sources)}")
            for module in ready:
                sources.pop(module)


if __name__ == "__main__":
    unittest.main()
