"""What can be looked up, file by file, of the rules that the package is written by."""

import ast
import builtins
import pathlib
import re
import unittest

PACKAGE = pathlib.Path(__file__).resolve().parent.parent / "storyrows"

BUILT_IN = set("""
    len range enumerate zip min max sum abs sorted reversed int str bool list tuple dict set frozenset
    isinstance ord repr any all divmod Exception ValueError TypeError KeyError IndexError LookupError
    ZeroDivisionError ArithmeticError OverflowError RuntimeError NotImplementedError AttributeError
    StopIteration
""".split())

METHODS = set("""
    append clear copy count endswith extend find get index insert isalnum isalpha isdigit islower isspace
    isupper items join keys ljust lower lstrip partition pop remove replace reverse rfind rjust rpartition
    rsplit rstrip setdefault split splitlines startswith strip update upper values zfill bit_length
""".split())

WORDS = re.compile(
    r"\b(type|typing|typing_extensions|enum|Enum|IntEnum|StrEnum|Flag|IntFlag|Generic|Protocol|ABC|ABCMeta"
    r"|namedtuple|NamedTuple|TypedDict|TYPE_CHECKING|abstractmethod)\b|dataclass|overload|contextmanager"
)

NODES = tuple(getattr(ast, name) for name in """
    Module FunctionDef ClassDef Return Assign AugAssign For While If Raise Try ImportFrom Expr Pass Break Continue
    BoolOp BinOp UnaryOp Lambda IfExp Dict ListComp Compare Call FormattedValue JoinedStr Constant Attribute
    Subscript Name List Tuple Slice ExceptHandler arguments arg keyword alias comprehension
    expr_context operator boolop unaryop cmpop
""".split())


def sources():
    return {path.name: path.read_text(encoding="utf-8") for path in sorted(PACKAGE.glob("*.py"))}


def nodes(kind):
    for name, text in sources().items():
        for node in ast.walk(ast.parse(text)):
            if isinstance(node, kind):
                yield name, node


def drawn(name):
    found = [node.module for place, node in nodes(ast.ImportFrom) if place == name]
    return [module.split(".")[1] + ".py" for module in found]


class Language(unittest.TestCase):
    def test_files(self):
        for path in PACKAGE.iterdir():
            if path.name != "__pycache__":
                self.assertRegex(path.name, r"\A([a-z][a-z0-9_]*|__init__|__main__)\.py\Z")
                self.assertNotIn(path.stem, dir(builtins))

    def test_signs_and_sizes(self):
        for name, text in sources().items():
            with self.subTest(name):
                self.assertRegex(text, r"\A[ -~\n]*\Z")
                self.assertLessEqual(len(text.splitlines()), 400)
                self.assertLessEqual(max(map(len, text.splitlines())), 120)
                self.assertIsNone(WORDS.search(text))
        for name, node in nodes(ast.FunctionDef):
            self.assertLessEqual(node.end_lineno - node.lineno + 1, 40, (name, node.name))

    def test_statements_and_expressions(self):
        for name, node in nodes(ast.AST):
            with self.subTest(name, line=getattr(node, "lineno", 0)):
                self.assertIsInstance(node, NODES)
                self.assertNotIsInstance(node, (ast.Div, ast.MatMult))
                if isinstance(node, ast.Constant):
                    self.assertIsInstance(node.value, (int, str, type(None)))
                if isinstance(node, ast.Assign):
                    self.assertEqual(len(node.targets), 1)
                    self.assertNotIsInstance(node.targets[0], (ast.Tuple, ast.List))
                if isinstance(node, (ast.For, ast.While)):
                    self.assertEqual(node.orelse, [])
                if isinstance(node, (ast.FunctionDef, ast.ClassDef)):
                    self.assertEqual(node.decorator_list, [])
                if isinstance(node, ast.Try):
                    self.assertEqual(node.finalbody, [])
                if isinstance(node, ast.ListComp):
                    self.assertEqual(len(node.generators), 1)
                if isinstance(node, ast.Compare) and isinstance(node.ops[0], (ast.Is, ast.IsNot)):
                    self.assertIsInstance(node.comparators[0], ast.Constant)

    def test_imports(self):
        for name, node in nodes(ast.ImportFrom):
            with self.subTest(name, line=node.lineno):
                self.assertEqual(node.level, 0)
                self.assertRegex(node.module, r"\Astoryrows\.[a-z_]+\Z")
                top = ast.parse(sources()[node.module.split(".")[1] + ".py"]).body
                bound = [each.name for each in top if isinstance(each, (ast.FunctionDef, ast.ClassDef))]
                bound += [each.targets[0].id for each in top if isinstance(each, ast.Assign)]
                for alias in node.names:
                    self.assertIn(alias.name, bound)
                    self.assertIsNone(alias.asname)

    def test_no_files_draw_from_one_another(self):
        for name in sources():
            reached, waiting = set(), drawn(name)
            while waiting:
                other = waiting.pop()
                if other not in reached:
                    reached.add(other)
                    waiting.extend(drawn(other))
            self.assertNotIn(name, reached)

    def test_names(self):
        methods = {each.name for place, node in nodes(ast.ClassDef) for each in node.body
                   if isinstance(each, ast.FunctionDef)}
        kept = {node.attr for place, node in nodes(ast.Attribute) if isinstance(node.ctx, ast.Store)}
        self.assertEqual(methods & kept, set())
        for name, node in nodes(ast.Name):
            with self.subTest(name, name=node.id, line=node.lineno):
                self.assertFalse(node.id.startswith("_"))
                if isinstance(node.ctx, ast.Store):
                    self.assertNotIn(node.id, dir(builtins))
                elif node.id in dir(builtins):
                    self.assertIn(node.id, BUILT_IN)
        for name, node in nodes(ast.arg):
            self.assertNotIn(node.arg, dir(builtins))
            self.assertIsNone(node.annotation)
        for name, node in nodes(ast.Attribute):
            self.assertIn(node.attr, METHODS | methods | kept, name)

    def test_no_local_is_called_like_an_import_or_a_class(self):
        for name, text in sources().items():
            whole = ast.parse(text)
            taken = {alias.name for node in ast.walk(whole) if isinstance(node, ast.ImportFrom) for alias in node.names}
            taken |= {node.name for node in whole.body if isinstance(node, (ast.ClassDef, ast.FunctionDef))}
            bound = {node.id for node in ast.walk(whole) if isinstance(node, ast.Name) and isinstance(node.ctx, ast.Store)}
            bound |= {node.arg for node in ast.walk(whole) if isinstance(node, ast.arg)}
            self.assertEqual(taken & bound, set(), name)


if __name__ == "__main__":
    unittest.main()
