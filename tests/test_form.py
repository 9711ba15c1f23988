"""The form of the code: what of the rules of the language subset a test can see."""
import ast
import builtins
import pathlib
import re
import unittest

from beatfabric import errors

ROOT = pathlib.Path(__file__).resolve().parent.parent / "beatfabric"
FILES = sorted(ROOT.glob("*.py"))

USED_BUILTINS = set(
    "len range enumerate zip min max sum abs sorted reversed int str bool list tuple dict set isinstance ord repr "
    "any all divmod super ValueError KeyError".split()
)
METHODS = set(
    "append clear copy count endswith extend find get index insert isalnum isalpha isdigit islower isspace isupper "
    "items join keys ljust lower lstrip partition pop remove replace reverse rfind rjust rpartition rsplit rstrip "
    "setdefault split splitlines startswith strip update upper values zfill bit_length".split()
)
NEVER_NAMES = set("register mro elements open input law version_info with_traceback add_note args".split())
NEVER_ATTRIBUTES = set(
    "items keys values pop update append clear extend insert remove reverse setdefault sort args encode decode hex "
    "fromhex format format_map mro".split()
)
NEVER_WORDS = set(
    "type typing typing_extensions enum Enum IntEnum StrEnum Flag IntFlag Generic Protocol ABC ABCMeta namedtuple "
    "NamedTuple TypedDict TYPE_CHECKING abstractmethod".split()
)
DUNDERS = set("__init__ __enter__ __exit__".split())
ITERATED = set("zip enumerate reversed range".split())
VIEWS = set("items keys values".split())
ITERATING = set("list tuple dict sorted sum any all enumerate zip".split())
LIBRARY = {"heapq": ("heapify", "heappop", "heappush")}
NODES = (
    ast.Module, ast.FunctionDef, ast.ClassDef, ast.ImportFrom, ast.alias, ast.arguments, ast.arg, ast.Assign,
    ast.AugAssign, ast.If, ast.While, ast.For, ast.Return, ast.Break, ast.Continue, ast.Pass, ast.Raise, ast.Expr,
    ast.With, ast.withitem, ast.Yield, ast.Call, ast.keyword, ast.Name, ast.Attribute, ast.Subscript, ast.Slice,
    ast.Constant, ast.Tuple, ast.List, ast.Dict, ast.ListComp, ast.DictComp, ast.comprehension, ast.BinOp,
    ast.UnaryOp, ast.BoolOp, ast.Compare, ast.IfExp, ast.JoinedStr, ast.FormattedValue, ast.Load, ast.Store,
    ast.Add, ast.Sub, ast.Mult, ast.FloorDiv, ast.Mod, ast.BitAnd, ast.BitOr, ast.BitXor, ast.LShift, ast.RShift,
    ast.USub, ast.Not, ast.And, ast.Or, ast.Eq, ast.NotEq, ast.Lt, ast.LtE, ast.Gt, ast.GtE, ast.In, ast.NotIn,
    ast.Is, ast.IsNot,
)


def parsed():
    return [(path, path.read_text(encoding="utf-8"), ast.parse(path.read_text(encoding="utf-8"))) for path in FILES]


def functions_of(tree):
    return [node for node in ast.walk(tree) if isinstance(node, ast.FunctionDef)]


def parents_of(tree):
    above = {}
    for node in ast.walk(tree):
        for child in ast.iter_child_nodes(node):
            above[child] = node
    return above


def is_class_method(function):
    return any(isinstance(row, ast.Name) and row.id == "classmethod" for row in function.decorator_list)


def defined_in(tree):
    names = {}
    for node in tree.body:
        if isinstance(node, (ast.FunctionDef, ast.ClassDef)):
            names[node.name] = node
        elif isinstance(node, ast.Assign):
            names[node.targets[0].id] = node
    return names


class FormTest(unittest.TestCase):
    def fault(self, path, node, why):
        self.fail(f"{path.name}:{getattr(node, 'lineno', 0)}: {why}")

    def test_files(self):
        self.assertTrue(FILES)
        for path in ROOT.iterdir():
            if path.name == "__pycache__":
                continue
            self.assertRegex(path.name, r"^[a-z_][a-z0-9_]*\.py$")
        for path, text, _ in parsed():
            lines = text.split("\n")
            self.assertLess(len(lines), 400, path.name)
            self.assertTrue(text.endswith("\n"), path.name)
            self.assertTrue(all(sign == "\n" or " " <= sign <= "~" for sign in text), path.name)
            self.assertTrue(all(len(line) <= 120 for line in lines), path.name)
            self.assertTrue(all(line == line.rstrip() for line in lines), path.name)

    def test_statements_and_expressions(self):
        for path, _, tree in parsed():
            above = parents_of(tree)
            for node in ast.walk(tree):
                if not isinstance(node, NODES):
                    self.fault(path, node, type(node).__name__)
                if isinstance(node, ast.Compare):
                    for op, other in zip(node.ops, node.comparators):
                        if isinstance(op, (ast.Is, ast.IsNot)) and not (
                            isinstance(other, ast.Constant) and other.value is None
                        ):
                            self.fault(path, node, "is")
                if isinstance(node, ast.Raise):
                    call = node.exc
                    if not (isinstance(call, ast.Call) and isinstance(call.func, ast.Name)):
                        self.fault(path, node, "raise")
                if isinstance(node, ast.Yield) and not isinstance(above[node], ast.Expr):
                    self.fault(path, node, "yield")
                if isinstance(node, ast.Constant) and isinstance(node.value, (float, bytes, complex)):
                    self.fault(path, node, "constant")

    def test_strings(self):
        for path, text, tree in parsed():
            docs = set()
            for node in ast.walk(tree):
                if isinstance(node, (ast.Module, ast.FunctionDef, ast.ClassDef)):
                    first = node.body[0] if node.body else None
                    if isinstance(first, ast.Expr) and isinstance(first.value, ast.Constant):
                        docs.add(first.value)
                    else:
                        if not node.__class__.__name__ == "FunctionDef" or not node.name.startswith("__"):
                            if not (isinstance(node, ast.FunctionDef) and node.decorator_list):
                                self.fault(path, node, "no docstring")
            for node in ast.walk(tree):
                if isinstance(node, ast.Constant) and isinstance(node.value, str):
                    self.assertNotIn("\\", repr(node.value).replace("\\n", "").replace("\\'", ""), path.name)
                    if node not in docs:
                        self.assertNotIn("%", node.value, path.name)
                        self.assertFalse(node.value.startswith("__") and node.value.endswith("__"), path.name)
                        for word in re.findall(r"\w+", node.value):
                            self.assertNotIn(word, NEVER_WORDS, path.name)
            for word in ("_wall", "_WallAttr"):
                self.assertNotIn(word, text)

    def test_module_level(self):
        for path, _, tree in parsed():
            defined = {}
            for at, node in enumerate(tree.body):
                names = []
                if isinstance(node, ast.ImportFrom):
                    names = [alias.name for alias in node.names]
                elif isinstance(node, (ast.FunctionDef, ast.ClassDef)):
                    names = [node.name]
                elif isinstance(node, ast.Assign):
                    self.assertEqual(len(node.targets), 1, path.name)
                    names = [node.targets[0].id]
                    self.plain(path, node.value, defined, True)
                elif not (at == 0 and isinstance(node, ast.Expr)):
                    self.fault(path, node, "module level")
                for name in names:
                    if name in defined:
                        self.fault(path, node, f"{name} is bound twice")
                    defined[name] = node

    def plain(self, path, value, defined, outer):
        if isinstance(value, ast.Constant):
            return
        if isinstance(value, ast.Name) and isinstance(defined.get(value.id), ast.FunctionDef):
            return
        if isinstance(value, ast.Tuple) or (outer and isinstance(value, ast.List)):
            for part in value.elts:
                self.plain(path, part, defined, False)
            return
        if outer and isinstance(value, ast.Dict):
            for part in value.keys + value.values:
                self.plain(path, part, defined, False)
            return
        self.fault(path, value, "no plain value")

    def test_imports(self):
        trees = {f"beatfabric.{path.stem}": tree for path, _, tree in parsed()}
        needs = {}
        for path, text, tree in parsed():
            own = f"beatfabric.{path.stem}"
            needs[own] = []
            others = [node for node in tree.body if not isinstance(node, ast.ImportFrom)]
            for at, node in enumerate(tree.body):
                if not isinstance(node, ast.ImportFrom):
                    continue
                self.assertLess(at, len(tree.body) - len(others) + 1, path.name)
                self.assertEqual(node.level, 0, path.name)
                if node.module in LIBRARY:
                    self.library(path, tree, node)
                    continue
                self.assertIn(node.module, trees, path.name)
                needs[own].append(node.module)
                for alias in node.names:
                    self.assertIsNone(alias.asname, path.name)
                    self.assertIn(alias.name, defined_in(trees[node.module]), path.name)
                    uses = [n for n in ast.walk(tree) if isinstance(n, ast.Name) and n.id == alias.name]
                    self.assertTrue(uses, f"{path.name} does not use {alias.name}")
        done = set()

        def visit(name, around):
            self.assertNotIn(name, around)
            if name not in done:
                for other in needs[name]:
                    visit(other, around + [name])
                done.add(name)

        for name in needs:
            visit(name, [])

    def library(self, path, tree, node):
        """What is imported from Python's library is called, in functions."""
        called = [call.func for call in ast.walk(tree) if isinstance(call, ast.Call) and not call.keywords]
        for alias in node.names:
            self.assertIn(alias.name, LIBRARY[node.module])
            self.assertIsNone(alias.asname, path.name)
            uses = [n for n in ast.walk(tree) if isinstance(n, ast.Name) and n.id == alias.name]
            self.assertTrue(uses and all(use in called for use in uses), f"{path.name}: {alias.name}")

    def test_everything_is_used(self):
        from tests.test_interface import CLASSES, FUNCTIONS
        told = {name for functions in FUNCTIONS.values() for name in functions}
        told |= {name for name, _, _ in CLASSES.values()} | set(vars(errors))
        used = set()
        for _, _, tree in parsed():
            for node in ast.walk(tree):
                if isinstance(node, ast.Name) and isinstance(node.ctx, ast.Load):
                    used.add(node.id)
                if isinstance(node, ast.Attribute) and isinstance(node.ctx, ast.Load):
                    used.add(node.attr)
        for path, _, tree in parsed():
            for node in ast.walk(tree):
                if isinstance(node, (ast.FunctionDef, ast.ClassDef)) and node.name not in used | told | DUNDERS:
                    self.assertIn(node.name, "beat beats resume tried state of", f"{path.name}: {node.name}")
            for name in defined_in(tree):
                self.assertIn(name, used | told, path.name)

    def test_functions(self):
        for path, _, tree in parsed():
            for node in functions_of(tree):
                self.assertLessEqual(node.end_lineno - node.lineno + 1, 40, f"{path.name} {node.name}")
                self.assertIsNone(node.returns)
                told = node.args
                self.assertFalse(told.vararg or told.kwarg or told.posonlyargs, path.name)
                for arg in told.args + told.kwonlyargs:
                    self.assertIsNone(arg.annotation)
                for value in told.defaults:
                    self.plain(path, value, {}, False)
                for decorator in node.decorator_list:
                    told_one = isinstance(decorator, ast.Name) and decorator.id in ("property", "classmethod")
                    setter = isinstance(decorator, ast.Attribute) and decorator.attr == "setter"
                    self.assertTrue(told_one or setter, path.name)
                for inner in ast.walk(node):
                    if inner is not node and isinstance(inner, ast.FunctionDef):
                        self.fault(path, inner, "nested function")

    def test_names(self):
        for path, _, tree in parsed():
            fixed = {alias.name for node in tree.body if isinstance(node, ast.ImportFrom) for alias in node.names}
            fixed |= {node.name for node in tree.body if isinstance(node, ast.ClassDef)}
            functions = {node.name for node in tree.body if isinstance(node, ast.FunctionDef)}
            for node in ast.walk(tree):
                bound = []
                if isinstance(node, ast.Name) and isinstance(node.ctx, ast.Store):
                    bound = [node.id]
                elif isinstance(node, ast.arg):
                    bound = [node.arg]
                elif isinstance(node, (ast.FunctionDef, ast.ClassDef)):
                    bound = [node.name]
                for name in bound:
                    if name in DUNDERS:
                        continue
                    if not re.match(r"^(_|_?[A-Za-z][A-Za-z0-9_]*)$", name):
                        self.fault(path, node, name)
                    if name in NEVER_NAMES or name in NEVER_WORDS or hasattr(builtins, name):
                        self.fault(path, node, name)
                    if isinstance(node, (ast.Name, ast.arg)):
                        if name in fixed or name in functions:
                            self.fault(path, node, f"{name} is an import, a class or a function")
                if isinstance(node, ast.Name) and isinstance(node.ctx, ast.Load):
                    self.assertNotEqual(node.id, "_", path.name)
                    if hasattr(builtins, node.id) and node.id not in USED_BUILTINS | {"property", "classmethod"}:
                        self.fault(path, node, node.id)

    def test_calls(self):
        own = set()
        for _, _, tree in parsed():
            own |= {node.name for node in functions_of(tree)}
        for path, _, tree in parsed():
            above = parents_of(tree)
            for node in ast.walk(tree):
                if isinstance(node, ast.Name) and node.id in USED_BUILTINS - {"ValueError"}:
                    call = above[node]
                    if not (isinstance(call, ast.Call) and call.func is node):
                        self.fault(path, node, f"{node.id} as a value")
                if not isinstance(node, ast.Call):
                    continue
                if isinstance(node.func, ast.Attribute):
                    if node.func.attr not in METHODS | own:
                        self.fault(path, node, node.func.attr)
                elif not isinstance(node.func, ast.Name):
                    self.fault(path, node, "call of what is no name")
                name = node.func.id if isinstance(node.func, ast.Name) else node.func.attr
                if name == "set" and isinstance(node.func, ast.Name):
                    holder = above[node]
                    if not (isinstance(holder, ast.Call) and holder.func.id in ("len", "sorted")):
                        self.fault(path, node, "set")
                if (isinstance(node.func, ast.Name) and name in ITERATED) or (
                    isinstance(node.func, ast.Attribute) and name in VIEWS
                ):
                    self.iterated_at_once(path, node, above)
                for word in node.keywords:
                    self.assertIn(word.arg, ("default", "key", "reverse", "seed"), path.name)

    def iterated_at_once(self, path, node, above):
        holder = above[node]
        if isinstance(holder, (ast.For, ast.comprehension)) and holder.iter is node:
            return
        if isinstance(holder, ast.Call) and isinstance(holder.func, ast.Name):
            if holder.func.id in ITERATING and holder.args[0] is node:
                return
            if holder.func.id == "reversed" and getattr(node.func, "id", "") == "range":
                return
        self.fault(path, node, "not iterated at once")

    def test_loops_leave_what_they_iterate_over(self):
        changing = set("append extend insert pop remove clear update setdefault reverse".split())
        for path, _, tree in parsed():
            for loop in ast.walk(tree):
                if not isinstance(loop, ast.For):
                    continue
                over = {ast.dump(node).replace("Store", "Load") for node in ast.walk(loop.iter)
                        if isinstance(node, (ast.Name, ast.Attribute))}
                for node in [inner for row in loop.body for inner in ast.walk(row)]:
                    changed = None
                    if isinstance(node, ast.Call) and isinstance(node.func, ast.Attribute):
                        changed = node.func.value if node.func.attr in changing else None
                    if isinstance(node, ast.Subscript) and isinstance(node.ctx, ast.Store):
                        changed = node.value
                    if changed is not None and ast.dump(changed) in over:
                        self.fault(path, node, "changes what the loop iterates over")

    def test_classes(self):
        methods = {}
        attributes = {}
        read = {}
        for path, _, tree in parsed():
            for node in ast.walk(tree):
                if isinstance(node, ast.Attribute) and isinstance(node.ctx, ast.Load):
                    read[node.attr] = (path, node)
                if isinstance(node, ast.Attribute) and isinstance(node.ctx, ast.Store):
                    self.assertIsInstance(node.value, ast.Name, path.name)
                    attributes[node.attr] = (path, node)
                if isinstance(node, ast.ClassDef):
                    self.assertFalse(node.decorator_list or node.keywords)
                    for row in node.body:
                        if isinstance(row, ast.FunctionDef):
                            methods.setdefault(row.name, []).append(row)
                            first = "cls" if is_class_method(row) else "self"
                            self.assertEqual(row.args.args[0].arg, first, path.name)
                        else:
                            self.assertIsInstance(row, ast.Expr, path.name)
        for name, (path, node) in attributes.items():
            if name in NEVER_ATTRIBUTES or name in NEVER_NAMES:
                self.fault(path, node, name)
            if name in methods and not any(row.decorator_list for row in methods[name]):
                self.fault(path, node, f"{name} is a method, too")
        for name, (path, node) in read.items():
            if name not in attributes and name not in methods and name not in METHODS and name != "setter":
                self.fault(path, node, f"{name} is assigned nowhere")
        for name in methods:
            if name in DUNDERS:
                continue
            for kind in (str, int, list, dict, set, bytes, tuple):
                self.assertFalse(hasattr(kind, name), name)


if __name__ == "__main__":
    unittest.main()
