"""The rules of LANGUAGE.md that can be seen in the package's files."""

import ast
import builtins
import pathlib
import re
import unittest

PACKAGE = pathlib.Path(__file__).resolve().parent.parent / "maskwright"

BUILTINS = set(
    "len range enumerate zip min max sum abs sorted reversed int str bool bytes list tuple dict set frozenset "
    "isinstance ord repr any all divmod Exception ValueError TypeError KeyError IndexError LookupError "
    "ZeroDivisionError ArithmeticError OverflowError RuntimeError NotImplementedError AttributeError "
    "StopIteration".split()
)
METHODS = set(
    "append clear copy count endswith extend find get index insert isalnum isalpha isdigit islower isspace isupper "
    "items join keys ljust lower lstrip partition pop remove replace reverse rfind rjust rpartition rsplit rstrip "
    "setdefault split splitlines startswith strip update upper values zfill bit_length add discard sort __init__".split()
)
WORDS = (
    "type typing typing_extensions enum Enum IntEnum StrEnum Flag IntFlag Generic Protocol ABC ABCMeta namedtuple "
    "NamedTuple TypedDict TYPE_CHECKING abstractmethod"
).split()
NAMES = set(
    "register mro elements open input version_info with_traceback add_note attrgetter breakpoint builtins compile "
    "copyright credits delattr dir eval exec exit gc getattr globals hasattr help id importlib license locals "
    "methodcaller os quit setattr super type vars sys".split()
)
BARRED = (
    ast.With, ast.Match, ast.Global, ast.Nonlocal, ast.Yield, ast.YieldFrom, ast.AsyncFunctionDef, ast.AsyncFor,
    ast.AsyncWith, ast.Await, ast.GeneratorExp, ast.NamedExpr, ast.Div, ast.MatMult, ast.Import,
)


def files():
    return sorted(PACKAGE.glob("*.py"))


def tree_of(path):
    return ast.parse(path.read_text())


def nodes(kinds):
    """All nodes of some kinds, each with where it stands."""
    return [
        (f"{path.name}:{getattr(node, 'lineno', 0)}", node)
        for path in files() for node in ast.walk(tree_of(path)) if isinstance(node, kinds)
    ]


def bound_in(function):
    """The names that a function binds: its parameters and what it assigns, its own name left out."""
    names = [arg.arg for arg in ast.walk(function.args) if isinstance(arg, ast.arg)]
    for node in ast.walk(function):
        if isinstance(node, ast.Name) and not isinstance(node.ctx, ast.Load):
            names.append(node.id)
        if isinstance(node, ast.FunctionDef) and node is not function:
            names.append(node.name)
    return names


def bound_by(statement):
    """The names that a statement at module level binds."""
    if isinstance(statement, (ast.FunctionDef, ast.ClassDef)):
        return [statement.name]
    if isinstance(statement, ast.ImportFrom):
        return [alias.asname or alias.name for alias in statement.names]
    if isinstance(statement, ast.Assign):
        return [target.id for target in statement.targets]
    return []


def is_words(statement):
    return isinstance(statement, ast.Expr) and isinstance(statement.value, ast.Constant)


class TestFiles(unittest.TestCase):
    def test_the_folder_has_files_of_python_alone(self):
        others = [path.name for path in PACKAGE.iterdir() if path.suffix != ".py" and path.name != "__pycache__"]
        self.assertEqual(others, [])
        for path in files():
            self.assertRegex(path.stem, "^(__init__|[a-z][a-z0-9_]*)$")

    def test_init_has_a_sentence_alone(self):
        body = tree_of(PACKAGE / "__init__.py").body
        self.assertEqual(len(body), 1)
        self.assertTrue(is_words(body[0]))

    def test_sizes(self):
        for path in files():
            lines = path.read_text().split("\n")
            self.assertLessEqual(len(lines), 400, path.name)
            self.assertLessEqual(max(len(line) for line in lines), 120, path.name)
        for where, node in nodes(ast.FunctionDef):
            self.assertLessEqual(node.end_lineno - node.lineno + 1, 40, where)

    def test_signs_and_words(self):
        for path in files():
            text = path.read_text()
            self.assertRegex(text, r"\A[\n -~]*\Z", path.name)
            self.assertNotRegex(text, r"dataclass|overload|contextmanager", path.name)
            for word in WORDS:
                self.assertIsNone(re.search(rf"(?<![A-Za-z0-9_]){word}(?![A-Za-z0-9_])", text), (path.name, word))


class TestModules(unittest.TestCase):
    def test_module_level(self):
        plain = (ast.ImportFrom, ast.FunctionDef, ast.ClassDef, ast.Assign)
        for path in files():
            bound = []
            for statement in tree_of(path).body:
                self.assertTrue(isinstance(statement, plain) or is_words(statement), (path.name, statement.lineno))
                bound += bound_by(statement)
            self.assertEqual(len(bound), len(set(bound)), path.name)

    def test_imports_name_the_file_that_defines(self):
        for where, node in nodes(ast.ImportFrom):
            self.assertEqual(node.level, 0, where)
            top, name = node.module.split(".")
            self.assertEqual(top, "maskwright", where)
            defined = [
                word for statement in tree_of(PACKAGE / f"{name}.py").body
                if not isinstance(statement, ast.ImportFrom) for word in bound_by(statement)
            ]
            for alias in node.names:
                self.assertIn(alias.name, defined, where)

    def test_imports_lead_in_no_ring(self):
        wanted = {}
        for path in files():
            imports = [node for node in tree_of(path).body if isinstance(node, ast.ImportFrom)]
            wanted[path.stem] = {node.module.split(".")[1] for node in imports}
        while wanted:
            free = [name for name in wanted if not wanted[name] & set(wanted)]
            self.assertTrue(free, wanted)
            for name in free:
                del wanted[name]


class TestCode(unittest.TestCase):
    def test_statements_and_expressions(self):
        self.assertEqual([(where, ast.dump(node)) for where, node in nodes(BARRED)], [])
        for where, node in nodes((ast.For, ast.While)):
            self.assertEqual(node.orelse, [], where)
        for where, node in nodes(ast.Starred):
            self.assertIsInstance(node.ctx, ast.Store, where)

    def test_functions_are_plain(self):
        for where, node in nodes(ast.FunctionDef):
            self.assertIsNone(node.args.vararg, where)
            self.assertIsNone(node.args.kwarg, where)
            self.assertEqual((node.args.posonlyargs, node.decorator_list), ([], []), where)

    def test_classes_are_plain(self):
        for where, node in nodes(ast.ClassDef):
            self.assertLessEqual(len(node.bases), 1, where)
            self.assertEqual((node.keywords, node.decorator_list), ([], []), where)
            for statement in node.body:
                self.assertTrue(isinstance(statement, ast.FunctionDef) or is_words(statement), where)

    def test_no_name_is_a_method_and_an_attribute(self):
        methods = {part.name for where, node in nodes(ast.ClassDef) for part in node.body if not is_words(part)}
        attributes = [(where, node) for where, node in nodes(ast.Attribute)]
        assigned = {node.attr for where, node in attributes if isinstance(node.ctx, ast.Store)}
        self.assertEqual(methods & assigned, set())
        for where, node in attributes:
            self.assertIn(node.attr, methods | assigned | METHODS, where)

    def test_lists_and_dicts_at_module_level_are_only_read(self):
        for path in files():
            tree = tree_of(path)
            tables = [node for node in tree.body if isinstance(node, ast.Assign) and isinstance(node.value, (ast.List, ast.Dict))]
            names = {name for node in tables for name in bound_by(node)}
            for node in tables:
                inner = [part for part in ast.walk(node.value) if part is not node.value]
                self.assertFalse([part for part in inner if isinstance(part, (ast.List, ast.Dict))], path.name)
            good = [node.value for node in ast.walk(tree) if isinstance(node, ast.Subscript) and isinstance(node.ctx, ast.Load)]
            good += [part for node in ast.walk(tree) if isinstance(node, ast.Compare) for part in node.comparators]
            for node in ast.walk(tree):
                if isinstance(node, ast.Name) and node.id in names and isinstance(node.ctx, ast.Load):
                    self.assertTrue(any(node is part for part in good), (path.name, node.lineno))

    def test_is_stands_by_none_and_truths(self):
        for where, node in nodes(ast.Compare):
            for sign, thing in zip(node.ops, node.comparators):
                if isinstance(sign, (ast.Is, ast.IsNot)):
                    self.assertIn(getattr(thing, "value", 0), (None, True, False), where)

    def test_constants(self):
        for where, node in nodes(ast.Constant):
            self.assertNotIsInstance(node.value, (float, complex), where)
            self.assertNotIn("%", str(node.value), where)
        for where, node in nodes(ast.BinOp):
            if isinstance(node.op, ast.Pow):
                self.assertIsInstance(node.right, ast.Constant, where)

    def test_names(self):
        for where, node in nodes((ast.Name, ast.arg, ast.FunctionDef, ast.ClassDef, ast.Attribute)):
            name = getattr(node, "id", None) or getattr(node, "arg", None) or getattr(node, "name", None) or node.attr
            self.assertRegex(name, "^([A-Za-z][A-Za-z0-9_]*|__init__)$", where)
            self.assertNotIn(name, NAMES, where)

    def test_names_of_builtins_classes_and_imports_keep_their_meaning(self):
        for path in files():
            body = tree_of(path).body
            taken = {name for node in body if isinstance(node, (ast.ImportFrom, ast.ClassDef)) for name in bound_by(node)}
            taken |= set(dir(builtins))
            for node in ast.walk(tree_of(path)):
                if isinstance(node, ast.FunctionDef):
                    self.assertEqual(sorted(set(bound_in(node)) & taken), [], (path.name, node.name))

    def test_builtins_and_methods(self):
        own = {part.name for where, node in nodes(ast.ClassDef) for part in node.body if not is_words(part)}
        for path in files():
            tree = tree_of(path)
            known = BUILTINS | {name for statement in tree.body for name in bound_by(statement)}
            for node in ast.walk(tree):
                if isinstance(node, ast.FunctionDef):
                    known |= set(bound_in(node))
            for node in ast.walk(tree):
                if isinstance(node, ast.Name):
                    self.assertIn(node.id, known, (path.name, node.lineno))
                if isinstance(node, ast.Call) and isinstance(node.func, ast.Attribute):
                    self.assertIn(node.func.attr, METHODS | own, (path.name, node.lineno))


if __name__ == "__main__":
    unittest.main()
