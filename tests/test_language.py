"""The rules for the code of the package, as far as its syntax tree shows whether they are kept."""

import ast
import re
import unittest
from pathlib import Path

PACKAGE = Path(__file__).resolve().parent.parent / "surelevels"
FILES = sorted(PACKAGE.rglob("*.py"))

BUILTINS = set("""len range enumerate zip min max sum abs sorted reversed int str bool bytes list tuple dict set
    frozenset isinstance ord repr any all divmod iter next Exception ValueError TypeError KeyError IndexError
    LookupError ZeroDivisionError ArithmeticError OverflowError RuntimeError NotImplementedError AttributeError
    StopIteration NotImplemented staticmethod classmethod property super True False None""".split())
METHODS = set("""append clear copy count endswith extend find get index insert isalnum isalpha isdigit islower isspace
    isupper items join keys ljust lower lstrip partition pop remove replace reverse rfind rjust rpartition rsplit
    rstrip setdefault split splitlines startswith strip update upper values zfill bit_length title capitalize
    swapcase casefold center expandtabs removeprefix removesuffix rindex isascii isdecimal isnumeric istitle
    isidentifier isprintable""".split())
DOUBLE = set("""__init__ __eq__ __repr__ __str__ __len__ __enter__ __exit__ __call__ __iter__ __lt__ __le__ __gt__
    __ge__ __ne__ __add__ __sub__ __mul__ __floordiv__ __mod__ __pow__ __and__ __or__ __xor__ __lshift__ __rshift__
    __radd__ __rsub__ __rmul__ __neg__ __pos__ __invert__ __abs__ __bool__ __contains__ __getitem__
    __setitem__""".split())
BARRED_NAMES = set("""register mro elements open input law version_info with_traceback add_note format format_map
    args encode decode hex fromhex sort""".split())
BARRED_WORDS = set("""type typing typing_extensions enum Enum IntEnum StrEnum Flag IntFlag Generic Protocol ABC ABCMeta
    namedtuple NamedTuple TypedDict TYPE_CHECKING abstractmethod""".split())
BARRED_PIECES = ("dataclass", "overload", "contextmanager")
STATEMENTS = (ast.Global, ast.AsyncFunctionDef, ast.AsyncFor, ast.AsyncWith, ast.Await, ast.TryStar, ast.Import)
CAUGHT_NEVER = set("""Exception BaseException TypeError ArithmeticError OverflowError RuntimeError
    NotImplementedError AttributeError""".split())


def nodes(kind):
    """All nodes of a kind, with the name of their file."""
    for path in FILES:
        for node in ast.walk(ast.parse(path.read_text("utf-8"))):
            if isinstance(node, kind):
                yield f"{path.name}:{getattr(node, 'lineno', 0)}", node


def own_names(tree):
    """The names that a file binds, at module level and in its functions."""
    names = set()
    for node in ast.walk(tree):
        if isinstance(node, (ast.FunctionDef, ast.ClassDef)):
            names.add(node.name)
        if isinstance(node, ast.alias):
            names.add(node.asname or node.name)
        if isinstance(node, ast.arg):
            names.add(node.arg)
        if isinstance(node, ast.Name) and not isinstance(node.ctx, ast.Load):
            names.add(node.id)
        if isinstance(node, ast.ExceptHandler) and node.name:
            names.add(node.name)
    return names


def methods():
    """The methods of all classes: pairs of a class and a method."""
    for _, each in nodes(ast.ClassDef):
        for method in each.body:
            if isinstance(method, ast.FunctionDef):
                yield each, method


def attributes():
    """The names of all attributes that are assigned."""
    return {node.attr for _, node in nodes(ast.Attribute) if isinstance(node.ctx, ast.Store)}


class Files(unittest.TestCase):
    def test_l1_l14_folder(self):
        self.assertGreater(len(FILES), 1)
        for path in PACKAGE.rglob("*"):
            if "__pycache__" not in path.parts:
                self.assertRegex(path.name, r"^[a-z0-9_]+(\.py)?$")
        self.assertFalse(list(PACKAGE.rglob("test*")))

    def test_l10_sizes(self):
        for path in FILES:
            lines = path.read_text("utf-8").split("\n")
            self.assertLess(len(lines), 400, path)
            for line in lines:
                self.assertLessEqual(len(line), 120, path)
        for where, node in nodes(ast.FunctionDef):
            self.assertLessEqual(node.end_lineno - node.lineno + 1, 40, where)

    def test_l14_l17_l27_characters_and_words(self):
        for path in FILES:
            text = path.read_text("utf-8")
            self.assertTrue(all(letter == "\n" or " " <= letter <= "~" for letter in text), path)
            self.assertFalse(BARRED_WORDS & set(re.findall(r"\w+", text)), path)
            for piece in BARRED_PIECES:
                self.assertNotIn(piece, text, path)
        for where, node in nodes(ast.Constant):
            self.assertNotIsInstance(node.value, (float, complex), where)
            if isinstance(node.value, str):
                self.assertNotIn("%", node.value, where)
                self.assertFalse(node.value.endswith(("._", ".__")), where)

    def test_l2_l16_imports(self):
        for where, node in nodes(ast.ImportFrom):
            self.assertEqual(node.level, 0, where)
            self.assertRegex(node.module, r"^surelevels\.[a-z]+$", where)
            source = ast.parse((PACKAGE / (node.module.split(".")[1] + ".py")).read_text("utf-8"))
            defined = {each.name for each in source.body if isinstance(each, (ast.FunctionDef, ast.ClassDef))}
            defined |= {each.targets[0].id for each in source.body if isinstance(each, ast.Assign)}
            for name in node.names:
                self.assertIn(name.name, defined, where)
                self.assertIsNone(name.asname, where)

    def test_l16_no_circles(self):
        ahead = {path.stem: set() for path in FILES}
        for where, node in nodes(ast.ImportFrom):
            ahead[where.split(".")[0]].add(node.module.split(".")[1])
        while ahead:
            free = [name for name in ahead if not ahead[name] & set(ahead)]
            self.assertTrue(free, ahead)
            for name in free:
                del ahead[name]

    def test_l3_module_level(self):
        for path in FILES:
            body = ast.parse(path.read_text("utf-8")).body
            bound = []
            for at, node in enumerate(body):
                allowed = (ast.ImportFrom, ast.FunctionDef, ast.ClassDef, ast.Assign)
                self.assertTrue(isinstance(node, allowed) or at == 0 and isinstance(node, ast.Expr), (path, node))
                if isinstance(node, ast.Assign):
                    self.assertFalse([part for part in ast.walk(node.value) if isinstance(part, ast.Call)], path)
                    bound.append(node.targets[0].id)
                elif isinstance(node, ast.ImportFrom):
                    bound.extend([each.name for each in node.names])
                elif not isinstance(node, ast.Expr):
                    bound.append(node.name)
            self.assertEqual(len(bound), len(set(bound)), path)


class Statements(unittest.TestCase):
    def test_l6_barred(self):
        for where, node in nodes(STATEMENTS):
            self.fail((where, node))
        for where, node in nodes(ast.ExceptHandler):
            self.assertIsNotNone(node.type, where)
            caught = {part.id for part in ast.walk(node.type) if isinstance(part, ast.Name)}
            self.assertTrue(caught and not caught & CAUGHT_NEVER, where)

    def test_l7_signs(self):
        for where, node in nodes((ast.BinOp, ast.AugAssign)):
            self.assertNotIsInstance(node.op, (ast.Div, ast.MatMult), where)
            if isinstance(node.op, ast.Pow):
                exponent = node.right if isinstance(node, ast.BinOp) else node.value
                self.assertIsInstance(exponent, ast.Constant, where)
                self.assertIn(exponent.value, range(65), where)

    def test_l7_lists_in_sums_and_tests(self):
        for where, node in nodes(ast.Call):
            if isinstance(node.func, ast.Name) and node.func.id in ("any", "all", "min", "max", "sum", "sorted"):
                self.assertFalse([each for each in node.args if isinstance(each, ast.GeneratorExp)], where)

    def test_l7_stars_in_calls(self):
        for where, node in nodes(ast.Call):
            for each in node.args:
                if isinstance(each, ast.Starred):
                    self.assertIsInstance(each.value, ast.Name, where)
            if any(isinstance(each, ast.Starred) for each in node.args):
                self.assertTrue(all(isinstance(each, (ast.Starred, ast.Name)) for each in node.args), where)

    def test_l5_nothing_sorts_numbers(self):
        """Fractions have an order that is not by one key, so sorted, min and max are not for them, nor is sort."""
        for where, node in nodes(ast.Call):
            if isinstance(node.func, ast.Name):
                self.assertNotIn(node.func.id, ("sorted", "min", "max"), where)
            if isinstance(node.func, ast.Attribute):
                self.assertNotEqual(node.func.attr, "sort", where)

    def test_l23_iterated_at_once(self):
        """Whatever gives no list stands where it is iterated on the spot."""
        for path in FILES:
            tree = ast.parse(path.read_text("utf-8"))
            allowed = set()
            for node in ast.walk(tree):
                if isinstance(node, (ast.For, ast.comprehension)):
                    allowed.add(node.iter)
                if isinstance(node, ast.Call) and isinstance(node.func, ast.Name) and node.args:
                    if node.func.id in ("list", "tuple", "dict", "sum", "any", "all", "enumerate", "zip", "reversed"):
                        allowed.add(node.args[0])
                if isinstance(node, ast.Call) and isinstance(node.func, ast.Attribute) and node.func.attr == "join":
                    allowed.add(node.args[0])
            for node in ast.walk(tree):
                if isinstance(node, ast.Call):
                    word = getattr(node.func, "id", getattr(node.func, "attr", ""))
                    if word in ("zip", "enumerate", "reversed", "range", "items", "keys", "values"):
                        self.assertIn(node, allowed, f"{path.name}:{node.lineno}")

    def test_l24_l27_sets_and_powers(self):
        for where, node in nodes((ast.Set, ast.SetComp, ast.GeneratorExp, ast.Yield, ast.YieldFrom, ast.NamedExpr)):
            self.fail((where, node))

    def test_l19_raise(self):
        for where, node in nodes(ast.Raise):
            if node.exc is not None:
                self.assertIsInstance(node.exc, ast.Call, where)
                self.assertIsInstance(node.exc.func, ast.Name, where)

    def test_l20_is(self):
        for where, node in nodes(ast.Compare):
            for sign, right in zip(node.ops, node.comparators):
                if isinstance(sign, (ast.Is, ast.IsNot)):
                    self.assertIsInstance(right, ast.Constant, where)
                    self.assertTrue(right.value is None or isinstance(right.value, bool), where)

    def test_l4_parameters(self):
        for where, node in nodes(ast.arguments):
            self.assertFalse(node.posonlyargs, where)
            for default in node.defaults + [each for each in node.kw_defaults if each is not None]:
                self.assertFalse([part for part in ast.walk(default)
                                  if isinstance(part, (ast.Call, ast.List, ast.Dict, ast.Set))], where)


class Names(unittest.TestCase):
    def test_l8_builtins(self):
        for path in FILES:
            tree = ast.parse(path.read_text("utf-8"))
            own = own_names(tree)
            self.assertFalse(own & (BUILTINS | set(dir(__builtins__) if not isinstance(__builtins__, dict)
                                                   else __builtins__)), path)
            for node in ast.walk(tree):
                if isinstance(node, ast.Name) and isinstance(node.ctx, ast.Load):
                    self.assertIn(node.id, own | BUILTINS, f"{path.name}:{node.lineno}")

    def test_l12_l17_plain_names(self):
        assigned = attributes()
        for path in FILES:
            for name in own_names(ast.parse(path.read_text("utf-8"))) | assigned:
                self.assertTrue(name in DOUBLE or not name.startswith("_"), (path, name))
                self.assertNotIn(name, BARRED_NAMES, path)

    def test_l15_names_of_classes_and_imports(self):
        for path in FILES:
            tree = ast.parse(path.read_text("utf-8"))
            taken = {node.name for node in ast.walk(tree) if isinstance(node, (ast.ClassDef, ast.alias))}
            for node in ast.walk(tree):
                if isinstance(node, ast.arg):
                    self.assertNotIn(node.arg, taken, path)
                if isinstance(node, ast.Name) and not isinstance(node.ctx, ast.Load):
                    self.assertNotIn(node.id, taken, path)

    def test_l18_methods_and_attributes(self):
        words = {method.name for _, method in methods()}
        self.assertFalse(words & attributes())
        for _, each in nodes(ast.ClassDef):
            names = [method.name for method in each.body if isinstance(method, ast.FunctionDef)]
            self.assertEqual(len(names), len(set(names)), each.name)
        known = words | attributes() | METHODS
        for where, node in nodes(ast.Attribute):
            self.assertIn(node.attr, known, where)

    def test_l5_l28_double_underscores(self):
        for each, method in methods():
            if method.name.startswith("_"):
                self.assertIn(method.name, DOUBLE, each.name)
                self.assertFalse(method.decorator_list, each.name)
            if method.name == "__init__":
                self.assertFalse([node for node in ast.walk(method) if isinstance(node, ast.Return)], each.name)
            if method.name == "__iter__":
                self.assertRegex(ast.unparse(method.body[-1]), r"^return iter\(self\.\w+(\.\w+(\(\))?)?\)$")
        for where, node in nodes((ast.FunctionDef, ast.ClassDef)):
            for each in node.decorator_list:
                self.assertIn(ast.unparse(each), ("staticmethod", "classmethod", "property"), where)


if __name__ == "__main__":
    unittest.main()
