"""The files of the package keep those rules of LANGUAGE.md that can be seen in the code at once."""

import ast
import builtins
import pathlib
import re
import unittest

ROOT = pathlib.Path(__file__).resolve().parent.parent / "lampward"
FILES = sorted(ROOT.rglob("*.py"))
LIBRARY = {"math": {"gcd", "lcm", "isqrt"}}
BUILTINS = set(
    "len range enumerate zip min max sum abs sorted reversed int str bool list tuple dict set isinstance ord repr any"
    " all divmod getattr hasattr setattr iter next map super ValueError KeyError".split()
)
METHODS = set(
    "append clear copy count endswith extend find get index insert isalnum isalpha isdigit islower isspace isupper"
    " items join keys ljust lower lstrip partition pop remove replace reverse rfind rjust rpartition rsplit rstrip"
    " setdefault split splitlines startswith strip update upper values zfill bit_length title capitalize removeprefix"
    " removesuffix rindex isascii isdecimal isnumeric isidentifier".split()
)
ATTRIBUTES_NEVER = set(
    "items keys values pop update append clear extend insert remove reverse setdefault sort args encode decode hex"
    " fromhex format mro".split()
)
NAMES_NEVER = set(
    "mro elements open input law version_info with_traceback add_note register attrgetter breakpoint builtins compile"
    " copyright credits delattr dir eval exec exit gc getattr globals hasattr help id importlib license locals"
    " methodcaller os quit setattr super type vars sys".split()
)
WORDS_NEVER = set(
    "type typing typing_extensions enum Enum IntEnum StrEnum Flag IntFlag Generic Protocol ABC ABCMeta namedtuple"
    " NamedTuple TypedDict TYPE_CHECKING abstractmethod".split()
)
PARTS_NEVER = ("dataclass", "overload", "contextmanager")
NAMES_RESERVED = set("_cold _tuplegetter _outside _record _written_out _member_names".split())
STARTS_RESERVED = ("_wall", "_pe_", "_dcw_", "_enum_", "_cm_", "_twin_re_", "_lay_", "_law_", "_stub_", "_sre")
DOUBLE = {"__init__", "__eq__"}
PLAIN = (ast.Constant, ast.List, ast.Tuple, ast.Dict, ast.UnaryOp, ast.USub, ast.Name, ast.Load)
BARRED = (
    ast.AsyncFunctionDef, ast.AsyncFor, ast.AsyncWith, ast.Await, ast.Global, ast.GeneratorExp, ast.AnnAssign,
    ast.YieldFrom, ast.Yield, ast.Div, ast.NamedExpr, ast.SetComp, ast.Set,
)


def module_of(path):
    parts = path.relative_to(ROOT.parent).with_suffix("").parts
    return ".".join(parts[:-1] if parts[-1] == "__init__" else parts)


def trees():
    return {module_of(path): ast.parse(path.read_text()) for path in FILES}


def functions(tree):
    return [node for node in ast.walk(tree) if isinstance(node, ast.FunctionDef)]


def arguments(node):
    found = node.args
    rest = [found.vararg] if found.vararg else []
    return [arg.arg for arg in found.posonlyargs + found.args + found.kwonlyargs + rest]


def bound(tree):
    """Names of variables, functions, classes, imports, parameters and caught errors."""
    names = []
    for node in ast.walk(tree):
        if isinstance(node, ast.Name) and isinstance(node.ctx, (ast.Store, ast.Del)):
            names.append(node.id)
        elif isinstance(node, (ast.FunctionDef, ast.ClassDef)):
            names.append(node.name)
        elif isinstance(node, ast.ExceptHandler) and node.name:
            names.append(node.name)
        elif isinstance(node, ast.alias):
            names.append(node.name)
        if isinstance(node, (ast.FunctionDef, ast.Lambda)):
            names += arguments(node)
    return names


def attributes(tree):
    return [node.attr for node in ast.walk(tree) if isinstance(node, ast.Attribute)]


def local_names(function):
    """Parameters, local variables and nested functions of a function."""
    names = arguments(function)
    for node in ast.walk(function):
        if isinstance(node, ast.Name) and isinstance(node.ctx, ast.Store):
            names.append(node.id)
        elif isinstance(node, ast.FunctionDef) and node is not function:
            names.append(node.name)
        elif isinstance(node, ast.Lambda):
            names += arguments(node)
    return names


class Files(unittest.TestCase):
    def test_folder(self):
        for path in ROOT.rglob("*"):
            if "__pycache__" in path.parts:
                continue
            if path.is_dir():
                self.assertTrue((path / "__init__.py").exists(), path)
                self.assertFalse((path.parent / (path.name + ".py")).exists(), path)
            else:
                self.assertEqual(path.suffix, ".py", path)
            self.assertRegex(path.name, r"^[a-z_][a-z0-9_]*(\.py)?$")
            self.assertNotIn(path.stem, set(dir(builtins)) | WORDS_NEVER | {"test", "tests", "site"})
        self.assertLessEqual(len(FILES), 100)

    def test_lines(self):
        for path in FILES:
            text = path.read_text()
            self.assertTrue(text.endswith("\n"), path)
            self.assertLessEqual(len(text.splitlines()), 399, path)
            for line in text.splitlines():
                self.assertLessEqual(len(line), 120, (path, line))
                self.assertRegex(line, r"^[ -~]*$", path)
                self.assertEqual(line, line.rstrip(), path)

    def test_functions_are_short(self):
        for module, tree in trees().items():
            for node in functions(tree):
                self.assertLessEqual(node.end_lineno - node.lineno + 1, 40, (module, node.name))

    def test_module_level(self):
        for module, tree in trees().items():
            seen = []
            for node in tree.body:
                if isinstance(node, ast.Assign):
                    self.assertEqual(len(node.targets), 1, module)
                    self.assertTrue(all(isinstance(part, PLAIN) for part in ast.walk(node.value)), module)
                    seen.append(node.targets[0].id)
                elif isinstance(node, ast.ImportFrom):
                    seen += [alias.name for alias in node.names]
                elif isinstance(node, (ast.FunctionDef, ast.ClassDef)):
                    seen.append(node.name)
                else:
                    self.assertTrue(isinstance(node, ast.Expr) and isinstance(node.value, ast.Constant), module)
            self.assertEqual(len(seen), len(set(seen)), module)

    def test_nodes(self):
        for module, tree in trees().items():
            for node in ast.walk(tree):
                self.assertNotIsInstance(node, BARRED, module)
                if isinstance(node, (ast.FunctionDef, ast.ClassDef)):
                    self.assertEqual(node.decorator_list, [], module)
                if isinstance(node, ast.Constant):
                    self.assertNotIsInstance(node.value, (float, complex), module)
                    if isinstance(node.value, str):
                        self.assertNotIn("%", node.value, module)
                if isinstance(node, ast.Compare) and any(isinstance(op, (ast.Is, ast.IsNot)) for op in node.ops):
                    self.assertIn(node.comparators[0].value, (None, True, False), module)
                if isinstance(node, ast.Starred):
                    self.assertIsInstance(node.value, (ast.Name, ast.Attribute), module)
                if isinstance(node, ast.Call) and isinstance(node.func, ast.Name) and node.func.id == "set":
                    self.fail((module, "a set"))


class Imports(unittest.TestCase):
    def test_names_come_from_the_files_that_define_them(self):
        found = trees()
        for module, tree in found.items():
            for node in ast.walk(tree):
                self.assertNotIsInstance(node, ast.Import, module)
                if not isinstance(node, ast.ImportFrom):
                    continue
                self.assertEqual(node.level, 0, module)
                for alias in node.names:
                    self.assertIsNone(alias.asname, module)
                    if node.module in LIBRARY:
                        self.assertIn(alias.name, LIBRARY[node.module], module)
                    else:
                        self.assertIn(alias.name, self.defined(found[node.module]), (module, alias.name))

    def defined(self, tree):
        names = [node.name for node in tree.body if isinstance(node, (ast.FunctionDef, ast.ClassDef))]
        return names + [node.targets[0].id for node in tree.body if isinstance(node, ast.Assign)]

    def test_all_that_is_imported_is_used(self):
        for module, tree in trees().items():
            used = {node.id for node in ast.walk(tree) if isinstance(node, ast.Name)}
            for node in ast.walk(tree):
                if isinstance(node, ast.ImportFrom):
                    for alias in node.names:
                        self.assertIn(alias.name, used, module)

    def test_no_circles(self):
        needs = {}
        for module, tree in trees().items():
            needs[module] = [node.module for node in ast.walk(tree) if isinstance(node, ast.ImportFrom)]
        for module in needs:
            reached, left = set(), list(needs[module])
            while left:
                other = left.pop()
                self.assertNotEqual(other, module)
                if other not in reached:
                    reached.add(other)
                    left += needs.get(other, [])


class Names(unittest.TestCase):
    def test_names(self):
        for module, tree in trees().items():
            for name in bound(tree) + attributes(tree):
                self.assertRegex(name, r"^(_|_?[A-Za-z][A-Za-z0-9_]*|__init__|__eq__)$", module)
                self.assertFalse(name.startswith(STARTS_RESERVED), (module, name))
                self.assertNotIn(name.rstrip("0123456789_"), NAMES_RESERVED, module)
                self.assertFalse(any(part in name for part in PARTS_NEVER), (module, name))
                self.assertNotIn(name, WORDS_NEVER, module)
                self.assertTrue(name not in NAMES_NEVER or name == "super", (module, name))
            for name in bound(tree):
                self.assertTrue(name not in dir(builtins), (module, name))

    def test_words_in_the_code(self):
        for path in FILES:
            tree = ast.parse(path.read_text())
            for node in ast.walk(tree):
                if isinstance(node, (ast.Module, ast.ClassDef, ast.FunctionDef)) and ast.get_docstring(node):
                    node.body = node.body[1:] or [ast.Pass()]
            for part in PARTS_NEVER + tuple(WORDS_NEVER):
                self.assertIsNone(re.search(r"\b" + part + r"\b", ast.unparse(tree)), (path, part))

    def test_double_underscores(self):
        for module, tree in trees().items():
            for node in functions(tree):
                if node.name.startswith("__"):
                    self.assertIn(node.name, DOUBLE, module)

    def test_locals_do_not_hide_imports_and_classes(self):
        for module, tree in trees().items():
            taken = {alias.name for node in tree.body if isinstance(node, ast.ImportFrom) for alias in node.names}
            taken |= {node.name for node in tree.body if isinstance(node, ast.ClassDef)}
            for node in functions(tree):
                for name in local_names(node):
                    self.assertNotIn(name, taken, (module, node.name))

    def test_locals_do_not_hide_functions(self):
        for module, tree in trees().items():
            taken = {node.name for node in tree.body if isinstance(node, ast.FunctionDef)}
            for node in functions(tree):
                for name in local_names(node):
                    self.assertNotIn(name, taken, (module, node.name))

    def test_underscore_is_not_read(self):
        for module, tree in trees().items():
            for node in ast.walk(tree):
                if isinstance(node, ast.Name) and node.id == "_":
                    self.assertNotIsInstance(node.ctx, ast.Load, module)

    def test_builtins(self):
        for module, tree in trees().items():
            own = set(bound(tree))
            for node in ast.walk(tree):
                if isinstance(node, ast.Name) and node.id not in own:
                    self.assertIn(node.id, BUILTINS, module)


class Classes(unittest.TestCase):
    def methods(self, found):
        names = {}
        for module, tree in found.items():
            for node in ast.walk(tree):
                if isinstance(node, ast.ClassDef):
                    for part in node.body:
                        if isinstance(part, ast.FunctionDef):
                            names.setdefault(part.name, []).append(node.name)
        return names

    def stored(self, found):
        names = {}
        for module, tree in found.items():
            for node in ast.walk(tree):
                if isinstance(node, ast.Attribute) and isinstance(node.ctx, ast.Store):
                    names.setdefault(node.attr, []).append(module)
        return names

    def test_methods_that_are_called(self):
        found = trees()
        own = self.methods(found)
        for module, tree in found.items():
            for node in ast.walk(tree):
                if isinstance(node, ast.Call) and isinstance(node.func, ast.Attribute):
                    self.assertTrue(node.func.attr in METHODS or node.func.attr in own, (module, node.func.attr))

    def test_attributes(self):
        found = trees()
        own, stored = self.methods(found), self.stored(found)
        for name in stored:
            self.assertNotIn(name, ATTRIBUTES_NEVER)
            self.assertNotIn(name, own)
        for module, tree in found.items():
            called = [node.func for node in ast.walk(tree) if isinstance(node, ast.Call)]
            for node in ast.walk(tree):
                if isinstance(node, ast.Attribute) and node not in called:
                    self.assertIn(node.attr, stored, (module, node.attr))
