"""The form of the package's files: the narrow part of Python that it keeps to."""

import ast
import builtins
import pathlib
import re
import unittest

FOLDER = pathlib.Path(__file__).resolve().parent.parent / "heldalways"
FILES = sorted(FOLDER.glob("*.py"))
BUILTINS = {"len", "range", "enumerate", "zip", "min", "max", "sum", "abs", "sorted", "reversed", "int", "str", "bool",
            "list", "tuple", "dict", "set", "isinstance", "any", "all", "ord", "ValueError"}
METHODS = set("""append clear copy count endswith extend find get index insert isalnum isalpha isdigit islower isspace
    isupper items join keys ljust lower lstrip partition pop remove replace reverse rfind rjust rpartition rsplit
    rstrip setdefault split splitlines startswith strip update upper values zfill bit_length""".split())
BARRED = """type typing typing_extensions enum Enum IntEnum StrEnum Flag IntFlag Generic Protocol ABC ABCMeta namedtuple
    NamedTuple TypedDict TYPE_CHECKING abstractmethod _wall _WallAttr""".split()
BARRED_NAMES = """register mro elements open input law version_info with_traceback add_note attrgetter breakpoint
    builtins compile copyright credits delattr dir eval exec exit gc getattr globals hasattr help id importlib license
    locals methodcaller os quit setattr super vars sys""".split()
NODES = (ast.Module, ast.Expr, ast.Constant, ast.ImportFrom, ast.alias, ast.FunctionDef, ast.arguments, ast.arg,
         ast.ClassDef, ast.Name, ast.Load, ast.Store, ast.Attribute, ast.Assign, ast.AugAssign, ast.If, ast.While,
         ast.For, ast.Return, ast.Break, ast.Continue, ast.Pass, ast.Raise, ast.Try, ast.ExceptHandler, ast.Call,
         ast.keyword, ast.Compare, ast.BoolOp, ast.BinOp, ast.UnaryOp, ast.IfExp, ast.Tuple, ast.List, ast.Dict,
         ast.ListComp, ast.DictComp, ast.comprehension, ast.Subscript, ast.Slice, ast.Starred, ast.JoinedStr,
         ast.FormattedValue, ast.Lambda, ast.boolop, ast.cmpop, ast.unaryop, ast.operator)


ITERATING = ("list", "tuple", "dict", "sorted", "sum", "any", "all", "enumerate", "zip", "min", "max")
TAKEN = """items keys values pop update append clear extend insert remove reverse setdefault sort args encode decode hex
    fromhex format""".split()
CHANGING = "append extend insert pop remove clear update setdefault reverse add discard".split()


def called(node):
    """The name of the function or method that a node calls, None if it calls none."""
    if not isinstance(node, ast.Call):
        return None
    return node.func.id if isinstance(node.func, ast.Name) else node.func.attr


def trees():
    return [(path.name, ast.parse(path.read_text())) for path in FILES]


def own_names(tree):
    """The names that a file binds at module level, but those that it imports."""
    found = []
    for node in tree.body:
        if isinstance(node, (ast.FunctionDef, ast.ClassDef)):
            found.append(node.name)
        if isinstance(node, ast.Assign):
            found += [target.id for target in node.targets]
    return found


def imports(tree):
    return [(node.module, alias.name) for node in tree.body if isinstance(node, ast.ImportFrom) for alias in node.names]


def functions(tree):
    return [node for node in ast.walk(tree) if isinstance(node, ast.FunctionDef)]


class Form(unittest.TestCase):
    def test_files(self):
        self.assertIn("__init__.py", [path.name for path in FILES])
        for path in FOLDER.iterdir():
            self.assertTrue(path.name == "__pycache__" or re.fullmatch("[a-z_][a-z0-9_]*[.]py", path.name), path)

    def test_sizes_and_signs(self):
        for path in FILES:
            text = path.read_text()
            self.assertTrue(all([sign == "\n" or " " <= sign <= "~" for sign in text]), path)
            rows = text.split("\n")
            self.assertLessEqual(len(rows), 399, path)
            self.assertLessEqual(max([len(row) for row in rows]), 120, path)
            for node in functions(ast.parse(text)):
                self.assertLessEqual(node.end_lineno - node.lineno + 1, 40, (path.name, node.name))

    def test_nodes(self):
        for name, tree in trees():
            for node in ast.walk(tree):
                where = (name, getattr(node, "lineno", 0), type(node).__name__)
                if not isinstance(node, (ast.SetComp, ast.Set)):
                    self.assertIsInstance(node, NODES, where)
                self.assertNotIsInstance(node, (ast.Div, ast.MatMult), where)
                if isinstance(node, ast.Constant):
                    self.assertNotIsInstance(node.value, (float, complex, bytes), where)
                if isinstance(node, ast.Constant) and isinstance(node.value, str):
                    self.assertNotIn("%", node.value, where)
                if isinstance(node, ast.FunctionDef):
                    self.assertEqual(node.decorator_list, [], where)
                    inner = [one for one in ast.walk(node) if isinstance(one, ast.FunctionDef)]
                    self.assertEqual(len(inner), 1, where)
                if isinstance(node, (ast.Is, ast.IsNot)):
                    continue
                if isinstance(node, ast.Compare) and isinstance(node.ops[0], (ast.Is, ast.IsNot)):
                    self.assertIsInstance(node.comparators[0], ast.Constant, where)

    def test_sets_stand_where_they_are_used(self):
        for name, tree in trees():
            allowed = []
            for node in ast.walk(tree):
                if isinstance(node, ast.Call) and isinstance(node.func, ast.Name) and node.func.id in ("sorted", "len"):
                    allowed += [id(argument) for argument in node.args]
            for node in ast.walk(tree):
                made = isinstance(node, ast.Call) and isinstance(node.func, ast.Name) and node.func.id == "set"
                if made or isinstance(node, (ast.Set, ast.SetComp)):
                    self.assertIn(id(node), allowed, (name, node.lineno))

    def test_imports(self):
        own = {f"heldalways.{name[:-3]}": own_names(tree) for name, tree in trees()}
        ahead = {}
        for name, tree in trees():
            told = imports(tree)
            for module, word in told:
                self.assertIn(word, own[module], name)
            bound = [word for _, word in told] + own_names(tree)
            self.assertEqual(sorted(set(bound)), sorted(bound), name)
            ahead[f"heldalways.{name[:-3]}"] = {module for module, _ in told}
            for node in tree.body:
                kinds = (ast.Expr, ast.ImportFrom, ast.FunctionDef, ast.ClassDef, ast.Assign)
                self.assertIsInstance(node, kinds, (name, node.lineno))
        done = set()
        while len(done) < len(ahead):
            ready = {module for module in ahead if module not in done and ahead[module] <= done}
            self.assertTrue(ready, "files import from each other")
            done |= ready

    def test_every_import_is_used(self):
        for name, tree in trees():
            used = {node.id for node in ast.walk(tree) if isinstance(node, ast.Name)}
            for _, word in imports(tree):
                self.assertIn(word, used, name)

    def test_names(self):
        for name, tree in trees():
            classes = [node.name for node in tree.body if isinstance(node, ast.ClassDef)]
            taken = set(classes) | {word for _, word in imports(tree)} | set(own_names(tree))
            for function in functions(tree):
                local = {argument.arg for argument in function.args.args}
                local |= {node.id for node in ast.walk(function)
                          if isinstance(node, ast.Name) and isinstance(node.ctx, ast.Store)}
                for word in local:
                    self.assertNotIn(word, taken, (name, function.name))
                    self.assertNotIn(word, dir(builtins), (name, function.name))
                    self.assertNotIn(word, BARRED_NAMES, (name, function.name))
            for word in own_names(tree):
                self.assertNotIn(word, dir(builtins), name)
                self.assertNotIn(word, BARRED_NAMES, name)

    def test_calls(self):
        methods = {node.name for _, tree in trees() for one in ast.walk(tree) if isinstance(one, ast.ClassDef)
                   for node in one.body if isinstance(node, ast.FunctionDef)}
        for name, tree in trees():
            known = {word for _, word in imports(tree)} | set(own_names(tree)) | BUILTINS
            for function in functions(tree):
                local = {argument.arg for argument in function.args.args} | {"action"}
                for node in ast.walk(function):
                    if isinstance(node, ast.Call) and isinstance(node.func, ast.Name):
                        self.assertIn(node.func.id, known | local, (name, node.lineno))
                    elif isinstance(node, ast.Call):
                        self.assertIsInstance(node.func, ast.Attribute, (name, node.lineno))
                        self.assertIn(node.func.attr, METHODS | methods, (name, node.lineno))
                        self.assertNotIn(node.func.attr, ("sort",), (name, node.lineno))

    def test_words(self):
        for path in FILES:
            tree = ast.parse(path.read_text())
            words = [node.id for node in ast.walk(tree) if isinstance(node, ast.Name)]
            words += [node.attr for node in ast.walk(tree) if isinstance(node, ast.Attribute)]
            words += [node.value for node in ast.walk(tree) if isinstance(node, ast.Constant)
                      and isinstance(node.value, str)]
            for word in words:
                for part in re.findall("[A-Za-z_]+", word):
                    if "\n" not in word and not word.endswith("."):
                        self.assertNotIn(part, BARRED, (path.name, word))

    def test_what_is_iterated_at_once(self):
        for name, tree in trees():
            allowed = []
            for node in ast.walk(tree):
                if isinstance(node, (ast.For, ast.comprehension)):
                    allowed.append(id(node.iter))
                elif isinstance(node, ast.Call) and isinstance(node.func, ast.Name) and node.func.id in ITERATING:
                    allowed += [id(argument) for argument in node.args[:9 if node.func.id == "zip" else 1]]
                elif isinstance(node, ast.Call) and isinstance(node.func, ast.Name) and node.func.id == "reversed":
                    allowed += [id(node.args[0])] if called(node.args[0]) == "range" else []
                elif isinstance(node, ast.Assign) and called(node.value) == "range":
                    allowed.append(id(node.value))
            for node in ast.walk(tree):
                if called(node) in ("range", "zip", "enumerate", "reversed", "items", "keys", "values"):
                    self.assertIn(id(node), allowed, (name, node.lineno))

    def test_stars(self):
        for name, tree in trees():
            for node in ast.walk(tree):
                if isinstance(node, ast.Call):
                    for argument in node.args:
                        if isinstance(argument, ast.Starred):
                            self.assertIsInstance(argument.value, (ast.Name, ast.Attribute), (name, node.lineno))
                            self.assertNotIn(called(node), dir(builtins), (name, node.lineno))
                    self.assertTrue(all([keyword.arg is not None for keyword in node.keywords]), (name, node.lineno))

    def test_attributes_and_methods(self):
        for name, tree in trees():
            for node in ast.walk(tree):
                if isinstance(node, ast.Attribute) and isinstance(node.ctx, ast.Store):
                    self.assertNotIn(node.attr, TAKEN, (name, node.lineno))
                    self.assertIsInstance(node.value, ast.Name, (name, node.lineno))
                if isinstance(node, ast.ClassDef):
                    methods = [one.name for one in node.body if isinstance(one, ast.FunctionDef)]
                    self.assertEqual(len(set(methods)), len(methods), (name, node.name))
                    assigned = {one.attr for one in ast.walk(node) if isinstance(one, ast.Attribute) and isinstance(one.ctx, ast.Store)}
                    self.assertEqual(assigned & set(methods), set(), (name, node.name))

    def test_loops_do_not_change_what_they_go_over(self):
        for name, tree in trees():
            for node in ast.walk(tree):
                if isinstance(node, ast.For) and called(node.iter) != "range":
                    gone_over = {ast.unparse(one) for one in ast.walk(node.iter) if isinstance(one, (ast.Name, ast.Attribute))}
                    for one in ast.walk(node):
                        if isinstance(one, ast.Call) and isinstance(one.func, ast.Attribute) and one.func.attr in CHANGING:
                            self.assertFalse(called(node.iter) != "list" and ast.unparse(one.func.value) in gone_over, (name, one.lineno))
                        if isinstance(one, ast.Subscript) and isinstance(one.ctx, ast.Store):
                            self.assertNotIn(ast.unparse(one.value), gone_over, (name, one.lineno))

    def test_dunder_methods(self):
        for name, tree in trees():
            for node in functions(tree):
                if node.name.startswith("__"):
                    self.assertIn(node.name, ("__init__", "__eq__"), name)


if __name__ == "__main__":
    unittest.main()
