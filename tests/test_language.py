"""Holds the package's files against the rules of the language that can be seen in their text."""

import ast
import builtins
import os
import re
import unittest

FOLDER = os.path.join(os.path.dirname(os.path.dirname(os.path.abspath(__file__))), "millpath")
CALLED = set("""len range enumerate zip min max sum abs sorted reversed int str bool list tuple dict set frozenset
    isinstance ord repr any all divmod Exception ValueError TypeError KeyError IndexError LookupError
    ZeroDivisionError ArithmeticError OverflowError RuntimeError NotImplementedError AttributeError
    StopIteration""".split())
METHODS = set("""append clear copy count endswith extend find get index insert isalnum isalpha isdigit islower
    isspace isupper items join keys ljust lower lstrip partition pop remove replace reverse rfind rjust rpartition
    rsplit rstrip setdefault split splitlines startswith strip update upper values zfill bit_length""".split())
OUT = (ast.With, ast.Match, ast.Delete, ast.Global, ast.Nonlocal, ast.Assert, ast.Yield, ast.YieldFrom, ast.Await,
       ast.AsyncFunctionDef, ast.AsyncFor, ast.AsyncWith, ast.SetComp, ast.DictComp, ast.GeneratorExp,
       ast.NamedExpr, ast.Starred, ast.Div, ast.MatMult, ast.Import, ast.AnnAssign)
WORDS = re.compile(r"\b(type|typing|typing_extensions|enum|Enum|IntEnum|StrEnum|Flag|IntFlag|Generic|Protocol|ABC|"
                   r"ABCMeta|namedtuple|NamedTuple|TypedDict|TYPE_CHECKING|abstractmethod)\b|"
                   r"dataclass|overload|contextmanager")
TOP = (ast.FunctionDef, ast.ClassDef, ast.ImportFrom, ast.Assign)


def sources():
    """The package's files by name, with their texts."""
    found = {}
    for name in sorted(os.listdir(FOLDER)):
        if name != "__pycache__":
            with open(os.path.join(FOLDER, name), encoding="utf-8") as file:
                found[name] = file.read()
    return found


def parents_of(tree):
    return {child: node for node in ast.walk(tree) for child in ast.iter_child_nodes(node)}


def bound_names(tree):
    """Every name that a file binds: defs, parameters, targets."""
    for node in ast.walk(tree):
        if isinstance(node, (ast.FunctionDef, ast.ClassDef)):
            yield node.name
        elif isinstance(node, ast.arg):
            yield node.arg
        elif isinstance(node, ast.Name) and isinstance(node.ctx, ast.Store):
            yield node.id


def class_names(tree):
    """The methods of a file's classes, and the values that they give themselves."""
    methods, values = set(), set()
    for node in ast.walk(tree):
        if isinstance(node, ast.ClassDef):
            methods |= {part.name for part in node.body if isinstance(part, ast.FunctionDef)}
        elif isinstance(node, ast.Attribute) and isinstance(node.ctx, ast.Store):
            values.add(node.attr)
    return methods, values


def trees():
    return [(name, ast.parse(text)) for name, text in sources().items()]


class Language(unittest.TestCase):
    def test_files_signs_and_sizes(self):
        for name, text in sources().items():
            self.assertRegex(name, r"^(__init__|[a-z][a-z0-9_]*)\.py$")
            self.assertRegex(text, r"\A[\n -~]*\Z", name)
            self.assertIsNone(WORDS.search(text), name)
            rows = text.split("\n")
            self.assertLessEqual(len(rows), 400, name)
            self.assertLessEqual(max(len(row) for row in rows), 120, name)
            for node in ast.walk(ast.parse(text)):
                if isinstance(node, ast.FunctionDef):
                    self.assertLessEqual(node.end_lineno - node.lineno + 1, 40, (name, node.name))

    def test_the_top_holds_a_docstring_imports_plain_values_and_defs(self):
        for name, tree in trees():
            self.assertIsNotNone(ast.get_docstring(tree), name)
            for node in tree.body[1:]:
                self.assertIsInstance(node, TOP, name)
                if isinstance(node, ast.Assign):
                    ast.literal_eval(node.value)

    def test_imports_are_own_and_never_go_round(self):
        drawn = {}
        for name, tree in trees():
            froms = [node for node in ast.walk(tree) if isinstance(node, ast.ImportFrom)]
            drawn[name] = [node.module.split(".")[-1] + ".py" for node in froms]
            for node in froms:
                self.assertRegex(node.module, r"^millpath\.[a-z]+$")
                self.assertEqual(node.level, 0)
        while drawn:
            free = [name for name, needs in drawn.items() if not set(needs) & set(drawn)]
            self.assertTrue(free, drawn)
            drawn = {name: needs for name, needs in drawn.items() if name not in free}

    def test_statements_and_expressions(self):
        for name, tree in trees():
            for node in ast.walk(tree):
                where = (name, getattr(node, "lineno", None))
                self.assertNotIsInstance(node, OUT, where)
                if isinstance(node, (ast.FunctionDef, ast.ClassDef)):
                    self.assertEqual(node.decorator_list, [], where)
                if isinstance(node, ast.FunctionDef):
                    rest = node.args
                    self.assertFalse(rest.vararg or rest.kwarg or rest.kwonlyargs or rest.posonlyargs, where)
                if isinstance(node, (ast.For, ast.While)):
                    self.assertEqual(node.orelse, [], where)
                if isinstance(node, ast.Assign):
                    self.assertEqual(len(node.targets), 1, where)
                    self.assertNotIsInstance(node.targets[0], (ast.Tuple, ast.List), where)
                if isinstance(node, ast.ListComp):
                    self.assertEqual(len(node.generators), 1, where)
                    self.assertLessEqual(len(node.generators[0].ifs), 1, where)
                if isinstance(node, ast.Constant):
                    self.assertIsInstance(node.value, (int, str, type(None)), where)
                    self.assertNotIn("%", str(node.value), where)
                if isinstance(node, ast.Compare) and isinstance(node.ops[0], (ast.Is, ast.IsNot)):
                    self.assertIsInstance(node.comparators[0], ast.Constant, where)
                if isinstance(node, ast.BinOp) and isinstance(node.op, ast.Pow):
                    self.assertIsInstance(node.right, ast.Constant, where)

    def test_methods_and_values_of_classes(self):
        methods = set().union(*[class_names(tree)[0] for name, tree in trees()])
        values = set().union(*[class_names(tree)[1] for name, tree in trees()])
        pythons = set().union(*[dir(kind) for kind in (str, int, list, dict, set, bytes, tuple)])
        special = {"__init__", "__eq__", "__repr__", "__str__", "__len__"}
        self.assertFalse(methods & values)
        self.assertFalse((methods - special - METHODS - {"add", "discard"}) & pythons)
        self.assertFalse(values & pythons)
        self.assertFalse((methods | values) & {"register", "mro", "elements", "open", "input", "args"})
        for name, tree in trees():
            for node in ast.walk(tree):
                if isinstance(node, ast.ClassDef):
                    self.assertTrue(node in tree.body and len(node.bases) <= 1, (name, node.name))
                    bodies = [part for part in node.body if not isinstance(part, ast.FunctionDef)]
                    self.assertTrue(all(isinstance(part, ast.Expr) for part in bodies), (name, node.name))
                    self.assertEqual(len({part.name for part in node.body if part not in bodies}),
                                     len(node.body) - len(bodies), (name, node.name))

    def test_errors_are_own_made_on_the_spot_and_taken_by_name(self):
        own = {node.name for name, tree in trees() for node in tree.body if isinstance(node, ast.ClassDef)}
        for name, tree in trees():
            for node in ast.walk(tree):
                where = (name, getattr(node, "lineno", None))
                if isinstance(node, ast.ClassDef):
                    self.assertLessEqual({base.id for base in node.bases}, own | {"ValueError"}, where)
                if isinstance(node, ast.Raise):
                    self.assertIsInstance(node.exc, ast.Call, where)
                    self.assertIn(node.exc.func.id, own, where)
                    self.assertEqual(node.exc.keywords, [], where)
                if isinstance(node, ast.Try):
                    self.assertEqual(node.finalbody, [], where)
                if isinstance(node, ast.ExceptHandler):
                    self.assertIn(node.type.id, own | {"KeyError"}, where)

    def test_no_local_is_called_like_an_import(self):
        for name, tree in trees():
            froms = [node for node in tree.body if isinstance(node, ast.ImportFrom)]
            drawn = {alias.name for node in froms for alias in node.names}
            self.assertFalse(drawn & set(bound_names(tree)), name)
            self.assertTrue(all(alias.asname is None for node in froms for alias in node.names), name)
            used = {node.id for node in ast.walk(tree) if isinstance(node, ast.Name)}
            self.assertLessEqual(drawn, used, name)

    def test_names(self):
        own = set(dir(builtins))
        free = METHODS.union(*[part for name, tree in trees() for part in class_names(tree)])
        for name, tree in trees():
            for bound in bound_names(tree):
                self.assertRegex(bound, r"^[A-Za-z][A-Za-z0-9_]*$|^__(init|eq|repr|str|len)__$", name)
                self.assertNotIn(bound, own, name)
            for node in ast.walk(tree):
                if isinstance(node, ast.Name) and node.id in own:
                    self.assertIn(node.id, CALLED, (name, node.lineno))
                if isinstance(node, ast.Attribute):
                    self.assertIn(node.attr, free, (name, node.lineno))

    def test_sets_and_walks_are_used_on_the_spot(self):
        walks = ("zip", "enumerate", "reversed", "range")
        for name, tree in trees():
            parents = parents_of(tree)
            for node in ast.walk(tree):
                if not isinstance(node, ast.Call) or not isinstance(node.func, (ast.Name, ast.Attribute)):
                    continue
                above = parents[node]
                if isinstance(node.func, ast.Attribute):
                    if node.func.attr in ("items", "keys", "values"):
                        self.assertIsInstance(above, (ast.For, ast.comprehension), (name, node.lineno))
                    continue
                called = above.func.id if isinstance(above, ast.Call) and isinstance(above.func, ast.Name) else None
                if node.func.id == "set":
                    self.assertTrue(called in ("sorted", "len") and not above.keywords, (name, node.lineno))
                if node.func.id in walks and not isinstance(above, (ast.For, ast.comprehension)):
                    self.assertIn(called, ("list", "tuple", "dict", "sorted", "sum", "any", "all", "enumerate",
                                           "zip", "min", "max"), (name, node.lineno))


if __name__ == "__main__":
    unittest.main()
