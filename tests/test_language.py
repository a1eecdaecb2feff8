"""The form of the package's files: the rules of LANGUAGE.md that can be looked at file by file."""

import ast
import io
import keyword
import pathlib
import re
import tokenize
import unittest

PACKAGE = pathlib.Path(__file__).resolve().parent.parent / "lanewright"
BUILTINS = set(
    "len range enumerate zip min max sum abs sorted reversed int str bool list tuple dict set isinstance ord repr any all divmod "
    "super Exception ValueError TypeError KeyError IndexError LookupError ZeroDivisionError ArithmeticError OverflowError "
    "RuntimeError NotImplementedError AttributeError NotImplemented".split())
METHODS = set(
    "append clear copy count endswith extend find get index insert isalnum isalpha isdigit islower isspace isupper items join keys "
    "ljust lower lstrip partition pop remove replace reverse rfind rjust rpartition rsplit rstrip setdefault split splitlines "
    "startswith strip update upper values zfill bit_length isascii isdecimal removeprefix removesuffix rindex add discard".split())
BARRED_NAMES = set(
    "register mro elements open input law version_info with_traceback add_note type id hash next iter map filter round vars dir eval exec "
    "globals locals compile format chr print object bytes frozenset property".split())
BARRED_WORDS = set(
    "type typing typing_extensions enum Enum IntEnum StrEnum Flag IntFlag Generic Protocol ABC ABCMeta namedtuple NamedTuple TypedDict "
    "TYPE_CHECKING abstractmethod".split())
STATEMENTS = (
    ast.Assign, ast.AugAssign, ast.If, ast.While, ast.For, ast.Return, ast.Break, ast.Continue, ast.Pass, ast.Raise, ast.Assert, ast.Delete,
    ast.Expr, ast.FunctionDef, ast.Try,
)
DOUBLE = {"__init__", "__eq__", "__repr__", "__str__", "__len__"}


def files():
    return sorted(PACKAGE.rglob("*.py"))


def tree_of(file):
    return ast.parse(file.read_text(encoding="utf-8"))


def bound_names(tree):
    """All names that a file gives to something, with the nodes that give them."""
    for node in ast.walk(tree):
        if isinstance(node, (ast.FunctionDef, ast.ClassDef)):
            yield node.name, node
        elif isinstance(node, ast.arg):
            yield node.arg, node
        elif isinstance(node, ast.Name) and isinstance(node.ctx, ast.Store):
            yield node.id, node
        elif isinstance(node, ast.ExceptHandler) and node.name is not None:
            yield node.name, node


def inner_names(function):
    """Parameters and local variables of a function."""
    for node in ast.walk(function):
        if isinstance(node, ast.arg):
            yield node.arg
        elif isinstance(node, ast.Name) and isinstance(node.ctx, ast.Store):
            yield node.id


class Files(unittest.TestCase):
    def each(self):
        return [(file, file.read_text(encoding="utf-8"), tree_of(file)) for file in files()]

    def test_the_folder(self):
        self.assertTrue((PACKAGE / "__init__.py").is_file())
        for thing in PACKAGE.rglob("*"):
            if "__pycache__" not in thing.parts:
                self.assertTrue(thing.is_file() and re.fullmatch(r"[a-z0-9_]+\.py", thing.name), thing)
        self.assertLessEqual(len(files()), 100)

    def test_sizes_and_characters(self):
        for _, text, tree in self.each():
            rows = text.split("\n")
            self.assertLessEqual(len(rows), 399)
            self.assertLessEqual(max(map(len, rows)), 120)
            self.assertEqual([sign for sign in text if sign != "\n" and not " " <= sign <= "~"], [])
            for node in ast.walk(tree):
                if isinstance(node, ast.FunctionDef):
                    self.assertLessEqual(node.end_lineno - node.lineno + 1, 40, node.name)

    def test_imports(self):
        for _, _, tree in self.each():
            ahead = True
            for node in tree.body:
                is_import = isinstance(node, (ast.Import, ast.ImportFrom))
                docstring = isinstance(node, ast.Expr) and isinstance(node.value, ast.Constant)
                self.assertTrue(ahead or not is_import)
                ahead = is_import or (docstring and ahead)
                self.assertTrue(is_import or docstring or isinstance(node, (ast.FunctionDef, ast.ClassDef, ast.Assign)))
            for node in ast.walk(tree):
                self.assertNotIsInstance(node, ast.Import)
                if isinstance(node, ast.ImportFrom):
                    self.look_at_import(node)

    def test_nothing_is_imported_in_vain(self):
        for file, _, tree in self.each():
            names = {alias.name for node in tree.body if isinstance(node, ast.ImportFrom) for alias in node.names}
            self.assertEqual(names - {node.id for node in ast.walk(tree) if isinstance(node, ast.Name)}, set(), file)

    def look_at_import(self, node):
        self.assertTrue(node.level == 0 and node.module.startswith("lanewright."))
        there = tree_of(PACKAGE / (node.module.split(".")[1] + ".py"))
        defined = {part.name for part in there.body if isinstance(part, (ast.FunctionDef, ast.ClassDef))}
        defined |= {target.id for part in there.body if isinstance(part, ast.Assign) for target in part.targets}
        for alias in node.names:
            self.assertIsNone(alias.asname)
            self.assertIn(alias.name, defined)

    def test_no_two_files_import_from_each_other(self):
        ways = {}
        for file in files():
            ways[file.stem] = {node.module.split(".")[1] for node in ast.walk(tree_of(file)) if isinstance(node, ast.ImportFrom)}
        for start in ways:
            seen, ahead = set(), list(ways[start])
            while ahead:
                name = ahead.pop()
                self.assertNotEqual(name, start)
                if name not in seen:
                    seen.add(name)
                    ahead.extend(ways[name])

    def test_module_level_names_are_bound_once(self):
        for _, _, tree in self.each():
            names = []
            for node in tree.body:
                if isinstance(node, (ast.FunctionDef, ast.ClassDef)):
                    names.append(node.name)
                elif isinstance(node, ast.ImportFrom):
                    names.extend(alias.name for alias in node.names)
                elif isinstance(node, ast.Assign):
                    self.assertEqual(len(node.targets), 1)
                    ast.literal_eval(node.value)
                    names.append(node.targets[0].id)
            self.assertEqual(len(names), len(set(names)))
            for function in ast.walk(tree):
                if isinstance(function, ast.FunctionDef):
                    self.assertEqual(set(inner_names(function)) & set(names), set(), function.name)

    def test_names(self):
        for _, _, tree in self.each():
            for name, node in bound_names(tree):
                if isinstance(node, ast.FunctionDef) and name in DOUBLE:
                    continue
                self.assertTrue(name == "_" or re.fullmatch(r"_?[A-Za-z][A-Za-z0-9_]*", name), name)
                self.assertFalse(keyword.iskeyword(name) or name in BARRED_NAMES or name in BUILTINS, name)

    def test_words(self):
        for _, text, tree in self.each():
            docs = {node.body[0].value.lineno for node in ast.walk(tree)
                    if isinstance(node, (ast.Module, ast.ClassDef, ast.FunctionDef)) and ast.get_docstring(node) is not None}
            for token in tokenize.generate_tokens(io.StringIO(text).readline):
                if token.type == tokenize.STRING and token.start[0] in docs:
                    self.assertNotIn("%", token.string)
                elif token.type in (tokenize.NAME, tokenize.STRING):
                    self.assertEqual(set(re.findall(r"\w+", token.string)) & BARRED_WORDS, set())
                    if token.type == tokenize.STRING:
                        self.assertNotIn("%", token.string)
                        self.assertNotIn("__", token.string)

    def test_statements(self):
        for _, _, tree in self.each():
            for node in ast.walk(tree):
                self.assertNotIsInstance(node, (
                    ast.Global, ast.AsyncFunctionDef, ast.AsyncFor, ast.AsyncWith, ast.Await, ast.Import, ast.Div, ast.MatMult, ast.Set))
                if isinstance(node, ast.Constant):
                    self.assertNotIsInstance(node.value, (float, complex))
                if isinstance(node, ast.FunctionDef):
                    self.assertEqual(node.decorator_list, [])
                    for part in node.body:
                        self.assertIsInstance(part, STATEMENTS)
                if isinstance(node, ast.ClassDef):
                    self.assertEqual((node.decorator_list, len(node.bases) <= 1), ([], True))
                    for part in node.body:
                        self.assertIsInstance(part, (ast.FunctionDef, ast.Expr))
                        if isinstance(part, ast.FunctionDef) and part.name.startswith("__"):
                            self.assertIn(part.name, DOUBLE)

    def test_own_errors_alone_are_caught(self):
        own = {node.name for node in tree_of(PACKAGE / "errors.py").body if isinstance(node, ast.ClassDef)}
        for _, _, tree in self.each():
            for node in ast.walk(tree):
                if isinstance(node, ast.Try):
                    self.assertEqual((node.orelse, node.finalbody), ([], []))
                    for handler in node.handlers:
                        names = handler.type.elts if isinstance(handler.type, ast.Tuple) else [handler.type]
                        self.assertLessEqual({name.id for name in names}, own)

    def test_names_of_errors_stand_alone(self):
        for _, _, tree in self.each():
            for function in ast.walk(tree):
                if isinstance(function, ast.FunctionDef):
                    caught = [node.name for node in ast.walk(function) if isinstance(node, ast.ExceptHandler) and node.name is not None]
                    self.assertEqual(len(caught), len(set(caught)))
                    self.assertEqual(set(caught) & (set(inner_names(function)) | BUILTINS | BARRED_NAMES), set())

    def test_calls(self):
        for _, _, tree in self.each():
            bound = {name for name, _ in bound_names(tree)}
            bound |= {alias.name for node in ast.walk(tree) if isinstance(node, ast.ImportFrom) for alias in node.names}
            own = {node.name for file in files() for node in ast.walk(tree_of(file)) if isinstance(node, ast.FunctionDef)}
            for node in ast.walk(tree):
                if isinstance(node, ast.Name) and isinstance(node.ctx, ast.Load):
                    self.assertIn(node.id, bound | BUILTINS)
                if isinstance(node, ast.Call) and isinstance(node.func, ast.Attribute):
                    self.assertIn(node.func.attr, METHODS | own)
                    if node.func.attr in METHODS - own:
                        self.assertEqual(node.keywords, [])
                if isinstance(node, ast.Compare) and any(isinstance(op, (ast.Is, ast.IsNot)) for op in node.ops):
                    self.assertIn(ast.unparse(node.comparators[0]), ("None", "True", "False"))

    def test_sets_and_generators(self):
        """With an __eq__ in the package any, all and the like take lists; sets stand in len and sorted alone."""
        for _, _, tree in self.each():
            held = [part for node in ast.walk(tree) if isinstance(node, ast.Call) and isinstance(node.func, ast.Name)
                    and node.func.id in ("len", "sorted") for part in node.args]
            for node in ast.walk(tree):
                self.assertNotIsInstance(node, (ast.GeneratorExp, ast.SetComp, ast.Yield, ast.YieldFrom))
                if isinstance(node, ast.Call) and isinstance(node.func, ast.Name) and node.func.id == "set":
                    self.assertIn(node, held)

    def test_methods_are_no_attributes(self):
        for _, _, tree in self.each():
            for kind in ast.walk(tree):
                if isinstance(kind, ast.ClassDef):
                    methods = [part.name for part in kind.body if isinstance(part, ast.FunctionDef)]
                    given = {node.attr for node in ast.walk(kind) if isinstance(node, ast.Attribute) and isinstance(node.ctx, ast.Store)}
                    self.assertEqual(len(methods), len(set(methods)))
                    self.assertEqual(given & (set(methods) | METHODS | {"sort", "args", "hex", "encode", "decode", "format"}), set())


if __name__ == "__main__":
    unittest.main()
