"""The package keeps to the part of the language that LANGUAGE.md tells: what of its rules can be read off the code."""

import ast
import builtins
import pathlib
import re
import unittest

PACKAGE = pathlib.Path(__file__).resolve().parent.parent / "duskbook"

STATEMENTS = (ast.Assign, ast.AugAssign, ast.If, ast.While, ast.For, ast.Return, ast.Break, ast.Continue, ast.Pass,
              ast.Raise, ast.Try, ast.ExceptHandler, ast.Expr, ast.FunctionDef, ast.ClassDef, ast.ImportFrom)
EXPRESSIONS = (ast.Constant, ast.List, ast.Tuple, ast.Dict, ast.Set, ast.BinOp, ast.UnaryOp, ast.BoolOp, ast.Compare,
               ast.IfExp, ast.Call, ast.Attribute, ast.Subscript, ast.Slice, ast.ListComp, ast.Name, ast.Lambda,
               ast.JoinedStr, ast.FormattedValue)
PARTS = (ast.Module, ast.arguments, ast.arg, ast.alias, ast.comprehension, ast.keyword, ast.expr_context,
         ast.boolop, ast.operator, ast.unaryop, ast.cmpop)
OWN_NAMES = set("""len range enumerate zip min max sum abs sorted reversed int str bool list tuple dict set frozenset
    isinstance ord repr any all divmod Exception ValueError TypeError KeyError IndexError LookupError
    ZeroDivisionError ArithmeticError OverflowError RuntimeError NotImplementedError AttributeError
    StopIteration""".split())
METHODS = set("""append clear copy count endswith extend find get index insert isalnum isalpha isdigit islower isspace
    isupper items join keys ljust lower lstrip partition pop remove replace reverse rfind rjust rpartition rsplit
    rstrip setdefault split splitlines startswith strip update upper values zfill bit_length""".split())
WALKED_IN = set("list tuple dict sorted sum any all enumerate zip min max join".split())
UNUSED_WORDS = """type typing typing_extensions enum Enum IntEnum StrEnum Flag IntFlag Generic Protocol ABC ABCMeta
    namedtuple NamedTuple TypedDict TYPE_CHECKING abstractmethod""".split()
UNUSED_NAMES = set("""register mro elements open input version_info with_traceback add_note attrgetter breakpoint
    builtins compile copyright credits delattr dir eval exec exit gc getattr globals hasattr help id importlib license
    locals methodcaller os quit setattr super sys type vars format format_map""".split())


def called_name(node):
    if isinstance(node, ast.Call) and isinstance(node.func, ast.Name):
        return node.func.id
    if isinstance(node, ast.Call) and isinstance(node.func, ast.Attribute):
        return node.func.attr
    return None


def sides(node):
    """What stands between the signs that may part several sets."""
    if isinstance(node, ast.BinOp) and isinstance(node.op, (ast.Sub, ast.BitAnd, ast.BitOr, ast.BitXor)):
        return sides(node.left) + sides(node.right)
    return [node]


def local_names(tree):
    """Parameters and locals, the names of the file's top aside."""
    for part in ast.walk(tree):
        if isinstance(part, (ast.FunctionDef, ast.Lambda, ast.ListComp)):
            for node in ast.walk(part):
                if isinstance(node, ast.arg):
                    yield node.arg
                elif isinstance(node, ast.Name) and isinstance(node.ctx, ast.Store):
                    yield node.id


def bound_names(tree):
    """Every name that a file binds: defs, classes, parameters, locals, handlers and imports."""
    for node in ast.walk(tree):
        if isinstance(node, (ast.FunctionDef, ast.ClassDef)):
            yield node.name
        elif isinstance(node, ast.arg):
            yield node.arg
        elif isinstance(node, ast.Name) and isinstance(node.ctx, ast.Store):
            yield node.id
        elif isinstance(node, ast.ExceptHandler) and node.name:
            yield node.name
        elif isinstance(node, ast.alias):
            yield node.asname or node.name


class Language(unittest.TestCase):
    def setUp(self):
        self.files = {path: path.read_text(encoding="utf-8") for path in sorted(PACKAGE.glob("*.py"))}
        self.trees = {path: ast.parse(text) for path, text in self.files.items()}
        self.assertIn(PACKAGE / "__init__.py", self.files)

    def nodes(self):
        for path, tree in self.trees.items():
            for node in ast.walk(tree):
                yield f"{path.name}:{getattr(node, 'lineno', 0)}", node

    def test_files(self):
        for path in PACKAGE.iterdir():
            if path.name != "__pycache__":
                self.assertRegex(path.name, r"^[a-z0-9_]+\.py$")
                self.assertNotRegex(path.name, r"^(test|site|conftest|usercustomize)")

    def test_sizes_and_signs(self):
        for path, text in self.files.items():
            lines = text.split("\n")
            self.assertLessEqual(len(lines), 400, path)
            for number, line in enumerate(lines, 1):
                self.assertLessEqual(len(line), 120, f"{path.name}:{number}")
                self.assertRegex(line, r"^[ -~]*$", f"{path.name}:{number}")
        for where, node in self.nodes():
            if isinstance(node, ast.FunctionDef):
                self.assertLessEqual(node.end_lineno - node.lineno + 1, 40, where)

    def test_statements_and_expressions(self):
        for where, node in self.nodes():
            self.assertIsInstance(node, STATEMENTS + EXPRESSIONS + PARTS, where)
            self.assertNotIsInstance(node, (ast.Div, ast.MatMult), where)
            if isinstance(node, (ast.For, ast.While)):
                self.assertEqual(node.orelse, [], where)
            if isinstance(node, ast.Try):
                self.assertEqual(node.finalbody, [], where)
            if isinstance(node, ast.Assign):
                self.assertEqual(len(node.targets), 1, where)
                self.assertNotIsInstance(node.targets[0], (ast.Tuple, ast.List), where)
            if isinstance(node, ast.ListComp):
                self.assertEqual(len(node.generators), 1, where)
                self.assertLessEqual(len(node.generators[0].ifs), 1, where)
            if isinstance(node, ast.Constant):
                self.assertNotIsInstance(node.value, (float, bytes, complex), where)
                self.assertNotIn("%", str(node.value), where)

    def test_functions_and_classes(self):
        for where, node in self.nodes():
            if isinstance(node, (ast.FunctionDef, ast.ClassDef)):
                self.assertEqual(node.decorator_list, [], where)
            if isinstance(node, ast.arguments):
                self.assertFalse(node.vararg or node.kwarg or node.kwonlyargs or node.posonlyargs, where)
            if isinstance(node, ast.ClassDef):
                self.assertLessEqual(len(node.bases), 1, where)
                self.assertEqual(node.keywords, [], where)
                for part in node.body:
                    self.assertIsInstance(part, (ast.FunctionDef, ast.Pass), where)

    def test_docstrings_stand_at_the_top_of_a_file_alone(self):
        for path, tree in self.trees.items():
            self.assertIsNotNone(ast.get_docstring(tree), path)
            for node in ast.walk(tree):
                if isinstance(node, ast.Expr) and node is not tree.body[0]:
                    self.assertIsInstance(node.value, ast.Call, f"{path.name}:{node.lineno}")

    def test_the_top_of_a_module(self):
        for path, tree in self.trees.items():
            for node in tree.body[1:]:
                self.assertIsInstance(node, (ast.ImportFrom, ast.FunctionDef, ast.ClassDef, ast.Assign), path)
            tops = [node.name for node in tree.body if isinstance(node, (ast.FunctionDef, ast.ClassDef))]
            tops += [node.targets[0].id for node in tree.body if isinstance(node, ast.Assign)]
            tops += [name.name for node in tree.body if isinstance(node, ast.ImportFrom) for name in node.names]
            self.assertEqual(len(tops), len(set(tops)), path)

    def test_imports(self):
        drawn = {}
        for path, tree in self.trees.items():
            drawn[path.stem] = []
            for node in ast.walk(tree):
                if not isinstance(node, ast.ImportFrom):
                    continue
                self.assertIn(node, tree.body, path)
                self.assertEqual(node.level, 0, path)
                self.assertRegex(node.module, r"^duskbook\.[a-z_]+$")
                source = self.trees[PACKAGE / (node.module.split(".")[1] + ".py")]
                defined = [part.name for part in source.body if isinstance(part, (ast.FunctionDef, ast.ClassDef))]
                defined += [part.targets[0].id for part in source.body if isinstance(part, ast.Assign)]
                for name in node.names:
                    self.assertIn(name.name, defined, path)
                drawn[path.stem].append(node.module.split(".")[1])
        self.assertEqual(drawn["__init__"], [])
        while drawn:
            ends = [stem for stem in drawn if not [source for source in drawn[stem] if source in drawn]]
            self.assertTrue(ends, f"files that draw from one another: {drawn}")
            drawn = {stem: drawn[stem] for stem in drawn if stem not in ends}

    def test_names(self):
        for path, tree in self.trees.items():
            bound = list(bound_names(tree))
            for name in bound:
                if not re.fullmatch("__(init|eq|repr|str|len|all|version)__", name):
                    self.assertRegex(name, r"^[A-Za-z][A-Za-z0-9_]*$", path)
                self.assertNotIn(name, vars(builtins), path)
                self.assertNotIn(name, UNUSED_NAMES, path)
            for node in ast.walk(tree):
                if isinstance(node, ast.Name) and isinstance(node.ctx, ast.Load):
                    self.assertTrue(node.id in bound or node.id in OWN_NAMES, f"{path.name}:{node.lineno} {node.id}")

    def test_no_local_is_called_like_a_class_or_an_import_of_its_file(self):
        for path, tree in self.trees.items():
            taken = [node.name for node in tree.body if isinstance(node, ast.ClassDef)]
            taken += [name.name for node in tree.body if isinstance(node, ast.ImportFrom) for name in node.names]
            self.assertEqual(sorted(set(taken) & set(local_names(tree))), [], path)

    def test_no_name_is_a_method_and_a_value(self):
        classes = [node for where, node in self.nodes() if isinstance(node, ast.ClassDef)]
        methods = [part.name for node in classes for part in node.body if isinstance(part, ast.FunctionDef)]
        values = [node.attr for where, node in self.nodes()
                  if isinstance(node, ast.Attribute) and isinstance(node.ctx, ast.Store)]
        self.assertEqual(sorted(set(methods) & set(values)), [])
        for node in classes:
            names = [part.name for part in node.body if isinstance(part, ast.FunctionDef)]
            self.assertEqual(len(names), len(set(names)), node.name)

    def test_init_gives_back_nothing(self):
        for where, node in self.nodes():
            if isinstance(node, ast.FunctionDef) and node.name == "__init__":
                self.assertEqual([part for part in ast.walk(node) if isinstance(part, ast.Return)], [], where)

    def test_methods(self):
        own = {node.name for where, node in self.nodes() if isinstance(node, ast.FunctionDef)}
        for where, node in self.nodes():
            if isinstance(node, ast.Call) and isinstance(node.func, ast.Attribute):
                self.assertTrue(node.func.attr in METHODS or node.func.attr in own, f"{where} {node.func.attr}")
            if isinstance(node, ast.Attribute):
                self.assertNotIn(node.attr, UNUSED_NAMES, where)

    def test_is_stands_beside_none_and_truths_alone(self):
        for where, node in self.nodes():
            if isinstance(node, ast.Compare) and any(isinstance(sign, (ast.Is, ast.IsNot)) for sign in node.ops):
                self.assertIsInstance(node.comparators[0], ast.Constant, where)
                self.assertIn(repr(node.comparators[0].value), ("None", "True", "False"), where)

    def test_walks_and_sets_are_not_kept(self):
        for path, tree in self.trees.items():
            walked = [node.iter for node in ast.walk(tree) if isinstance(node, (ast.For, ast.comprehension))]
            walked += [part for node in ast.walk(tree) if called_name(node) in WALKED_IN for part in node.args]
            asked = [part for node in ast.walk(tree) if called_name(node) in ("len", "sorted") for part in node.args]
            asked += [side for part in asked for side in sides(part)]
            for node in ast.walk(tree):
                if called_name(node) in ("zip", "enumerate", "reversed", "range", "items", "keys", "values"):
                    self.assertIn(node, walked, f"{path.name}:{node.lineno}")
                if called_name(node) in ("set", "frozenset") or isinstance(node, ast.Set):
                    self.assertIn(node, asked, f"{path.name}:{node.lineno}")

    def test_lists_and_dicts_of_the_top_are_only_read(self):
        for path, tree in self.trees.items():
            tops = {node.targets[0].id: node.value for node in tree.body if isinstance(node, ast.Assign)}
            kept = {name for name, value in tops.items() if isinstance(value, (ast.List, ast.Dict))}
            read = []
            for node in ast.walk(tree):
                if isinstance(node, ast.Subscript) and isinstance(node.ctx, ast.Load):
                    read.append(node.value)
                elif isinstance(node, ast.Compare) and isinstance(node.ops[0], (ast.In, ast.NotIn)):
                    read.append(node.comparators[0])
                elif isinstance(node, ast.Attribute) and node.attr == "get":
                    read.append(node.value)
                elif isinstance(node, (ast.For, ast.comprehension)):
                    read.append(node.iter)
                elif called_name(node) in ("len", "list", "dict", "tuple", "sorted"):
                    read += node.args
            for node in ast.walk(tree):
                if isinstance(node, ast.Name) and isinstance(node.ctx, ast.Load) and node.id in kept:
                    self.assertIn(node, read, f"{path.name}:{node.lineno} {node.id}")
                if isinstance(node, ast.ImportFrom):
                    source = self.trees[PACKAGE / (node.module.split(".")[1] + ".py")]
                    drawn = [part.targets[0].id for part in source.body if isinstance(part, ast.Assign)
                             and isinstance(part.value, (ast.List, ast.Dict))]
                    self.assertEqual([name.name for name in node.names if name.name in drawn], [], path)
            for name in kept:
                inner = [part for part in ast.walk(tops[name]) if isinstance(part, (ast.List, ast.Dict))]
                self.assertEqual(inner, [tops[name]], f"{path.name} {name}")

    def test_errors_that_are_taken_and_raised(self):
        own = [node.name for node in self.trees[PACKAGE / "errors.py"].body[1:]]
        for where, node in self.nodes():
            if isinstance(node, ast.ExceptHandler):
                self.assertIsNotNone(node.type, where)
                taken = node.type.elts if isinstance(node.type, ast.Tuple) else [node.type]
                for name in taken:
                    self.assertTrue(name.id in own or name.id in ("KeyError", "ZeroDivisionError"), where)
            if isinstance(node, ast.Raise):
                self.assertIn(called_name(node.exc), own, where)

    def test_words_that_stand_nowhere(self):
        for path, text in self.files.items():
            for word in UNUSED_WORDS:
                self.assertIsNone(re.search(rf"\b{word}\b", text), f"{path.name}: {word}")
            for word in ("dataclass", "overload", "contextmanager"):
                self.assertNotIn(word, text, path)


if __name__ == "__main__":
    unittest.main()
