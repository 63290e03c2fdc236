"""Whether the package keeps to the subset of Python that LANGUAGE.md tells, as far as its text shows it.

Each test tells the rule's number. What these tests let pass may still break a rule."""

import ast
import builtins
import io
import re
import tokenize
import unittest
from pathlib import Path

PACKAGE = Path(__file__).resolve().parent.parent / "namedcuts"
FILES = sorted(path for path in PACKAGE.rglob("*") if path.is_file() and "__pycache__" not in path.parts)

LIBRARY = {
    "heapq": {"heappush", "heappop", "heapify", "heapreplace", "heappushpop"},
    "math": {"gcd", "lcm", "isqrt", "comb", "perm", "factorial"},
    "itertools": {"product", "combinations", "permutations"},
}
BUILTINS = set((
    "len range enumerate zip min max sum abs sorted reversed int str bool bytes list tuple dict set frozenset "
    "isinstance ord repr any all divmod Exception ValueError TypeError KeyError IndexError LookupError "
    "ZeroDivisionError ArithmeticError OverflowError RuntimeError NotImplementedError AttributeError StopIteration "
    "NotImplemented iter next map super property staticmethod classmethod").split())
METHODS = set((
    "append clear copy count endswith extend find get index insert isalnum isalpha isdigit islower isspace isupper "
    "items join keys ljust lower lstrip partition pop remove replace reverse rfind rjust rpartition rsplit rstrip "
    "setdefault split splitlines startswith strip update upper values zfill bit_length title capitalize swapcase "
    "casefold center expandtabs removeprefix removesuffix rindex isascii isdecimal isnumeric istitle isidentifier "
    "isprintable translate add discard sort").split())
BARRED_EVERYWHERE = set(
    "register mro elements open input law version_info with_traceback add_note f_back tb_next co_names".split())
BARRED_NAMES = set((
    "attrgetter breakpoint builtins compile copyright credits delattr dir eval exec exit gc getattr globals hasattr "
    "help id importlib license locals methodcaller os quit setattr type vars sys").split())
BARRED_WORDS = re.compile(
    r"\b(type|typing|typing_extensions|enum|Enum|IntEnum|StrEnum|Flag|IntFlag|Generic|Protocol|ABC|ABCMeta|namedtuple|"
    r"NamedTuple|TypedDict|TYPE_CHECKING|abstractmethod)\b|dataclass|overload|contextmanager")
BARRED_ATTRIBUTES = set((
    "items keys values pop update append clear extend insert remove reverse setdefault sort args encode decode hex "
    "fromhex format").split())
NODES = (
    ast.Module, ast.Expr, ast.Assign, ast.AugAssign, ast.AnnAssign, ast.If, ast.While, ast.For, ast.Return, ast.Break,
    ast.Continue, ast.Pass, ast.Raise, ast.Assert, ast.Delete, ast.With, ast.withitem, ast.Try, ast.ExceptHandler,
    ast.FunctionDef, ast.ClassDef, ast.ImportFrom, ast.alias, ast.arguments, ast.arg, ast.Lambda, ast.Call,
    ast.keyword, ast.Attribute, ast.Name, ast.Subscript, ast.Slice, ast.Starred, ast.Constant, ast.List, ast.Tuple,
    ast.Dict, ast.ListComp, ast.DictComp, ast.SetComp, ast.comprehension, ast.BoolOp, ast.BinOp, ast.UnaryOp,
    ast.Compare, ast.IfExp, ast.JoinedStr, ast.FormattedValue, ast.NamedExpr, ast.boolop, ast.operator, ast.unaryop,
    ast.cmpop, ast.expr_context)


def parsed(path):
    return ast.parse(path.read_text(encoding="ascii"))


def bound_names(tree):
    """All names that a file binds somewhere: by assignments, parameters, functions, classes and imports."""
    for node in ast.walk(tree):
        if isinstance(node, ast.Name) and isinstance(node.ctx, ast.Store):
            yield node.id
        elif isinstance(node, ast.arg):
            yield node.arg
        elif isinstance(node, (ast.FunctionDef, ast.ClassDef)):
            yield node.name
        elif isinstance(node, ast.alias):
            yield node.asname or node.name
        elif isinstance(node, ast.ExceptHandler) and node.name:
            yield node.name


def plain_names(tree):
    """The names that a file binds, but for those of methods."""
    methods = {id(item) for node in ast.walk(tree) if isinstance(node, ast.ClassDef) for item in node.body}
    functions = {node.name for node in ast.walk(tree) if isinstance(node, ast.FunctionDef) and id(node) in methods}
    return [name for name in bound_names(tree) if name not in functions]


class Language(unittest.TestCase):
    def trees(self):
        for path in FILES:
            yield path, parsed(path)

    def nodes(self, *kinds):
        for path, tree in self.trees():
            for node in ast.walk(tree):
                if isinstance(node, kinds):
                    yield path.name, node

    def test_l1_l14_files_and_characters(self):
        self.assertTrue(FILES)
        self.assertLessEqual(len(FILES), 100)
        for path in FILES:
            self.assertRegex(path.name, r"\A([a-z][a-z0-9_]*|__init__|__main__)\.py\Z")
            self.assertFalse(hasattr(builtins, path.stem) and not path.stem.startswith("__"), path)
            self.assertNotIn(path.stem, ("test", "tests", "testing", "site", "conftest", *LIBRARY, *BARRED_NAMES))
            self.assertRegex(path.read_bytes(), rb"\A[ -~\n]*\Z")

    def test_l10_sizes(self):
        for path, tree in self.trees():
            lines = path.read_text().splitlines()
            self.assertLessEqual(len(lines), 399, path)
            self.assertLessEqual(max(len(line) for line in lines), 120, path)
            for node in ast.walk(tree):
                if isinstance(node, ast.FunctionDef):
                    self.assertLessEqual(node.end_lineno - node.lineno + 1, 40, (path, node.name))

    def test_l2_l16_imports(self):
        imported = {}
        for path, tree in self.trees():
            imported[path.stem] = []
            for node in ast.walk(tree):
                if not isinstance(node, ast.ImportFrom):
                    continue
                self.assertIn(node, tree.body)
                self.assertEqual(node.level, 0)
                names = [alias.name for alias in node.names]
                if node.module in LIBRARY:
                    self.assertLessEqual(set(names), LIBRARY[node.module])
                    continue
                home = PACKAGE / (node.module.partition(".")[2] + ".py")
                self.assertRegex(node.module, r"\Anamedcuts\.[a-z_]+\Z")
                defined = [item.name for item in parsed(home).body if isinstance(item, (ast.FunctionDef, ast.ClassDef))]
                values = [item.targets[0].id for item in parsed(home).body if isinstance(item, ast.Assign)]
                self.assertLessEqual(set(names), set(defined + values), path)
                imported[path.stem].append(home.stem)
        while imported:
            free = [name for name, others in imported.items() if not set(others) & set(imported)]
            self.assertTrue(free, f"these import one another: {sorted(imported)}")
            for name in free:
                del imported[name]

    def test_l3_module_level(self):
        kinds = (ast.Expr, ast.ImportFrom, ast.FunctionDef, ast.ClassDef, ast.Assign)
        for path, tree in self.trees():
            names = []
            for node in tree.body:
                self.assertIsInstance(node, kinds, path)
                if isinstance(node, ast.Expr):
                    self.assertIsInstance(node.value, ast.Constant)
                if isinstance(node, ast.Assign):
                    self.assertEqual(len(node.targets), 1)
                    self.assertIsInstance(node.targets[0], ast.Name)
                    names.append(node.targets[0].id)
                elif isinstance(node, (ast.FunctionDef, ast.ClassDef)):
                    names.append(node.name)
                elif isinstance(node, ast.ImportFrom):
                    names.extend(alias.asname or alias.name for alias in node.names)
            self.assertEqual(len(names), len(set(names)), f"L15: bound twice in {path}")

    def test_l4_l6_l7_only_these_kinds_of_code(self):
        for name, node in self.nodes(ast.AST):
            self.assertIsInstance(node, NODES, (name, getattr(node, "lineno", None)))
            self.assertNotIsInstance(node, (ast.Div, ast.MatMult), name)
            if isinstance(node, ast.Constant):
                self.assertIsInstance(node.value, (int, str, bytes, type(None)), name)
            if isinstance(node, (ast.FunctionDef, ast.ClassDef)):
                told = [item.id for item in node.decorator_list if isinstance(item, ast.Name)]
                self.assertLessEqual(set(told), {"property", "staticmethod", "classmethod"}, name)

    def test_l8_builtins(self):
        for path, tree in self.trees():
            bound = set(bound_names(tree))
            for node in ast.walk(tree):
                if isinstance(node, ast.Name) and node.id not in bound and hasattr(builtins, node.id):
                    self.assertIn(node.id, BUILTINS, (path, node.lineno))

    def test_l15_no_name_has_another_meaning(self):
        for path, tree in self.trees():
            for name in plain_names(tree):
                self.assertFalse(hasattr(builtins, name), (path, name))
            own = {node.name for node in tree.body if isinstance(node, ast.ClassDef)}
            own |= {alias.name for node in tree.body if isinstance(node, ast.ImportFrom) for alias in node.names}
            for node in ast.walk(tree):
                if isinstance(node, ast.arg):
                    self.assertNotIn(node.arg, own, path)
                if isinstance(node, ast.Name) and isinstance(node.ctx, ast.Store):
                    self.assertNotIn(node.id, own, path)

    def test_l15_dicts_and_lists_of_modules_are_only_read(self):
        tables = {node.targets[0].id for _, tree in self.trees() for node in tree.body
                  if isinstance(node, ast.Assign) and isinstance(node.value, (ast.Dict, ast.List))}
        for path, tree in self.trees():
            read = [node.value for node in ast.walk(tree)
                    if isinstance(node, ast.Subscript) and isinstance(node.ctx, ast.Load)]
            read += [item for node in ast.walk(tree) if isinstance(node, ast.Compare) for item in node.comparators]
            for node in ast.walk(tree):
                if isinstance(node, ast.Name) and isinstance(node.ctx, ast.Load) and node.id in tables:
                    self.assertIn(node, read, (path, node.lineno))

    def test_l12_l17_l26_names(self):
        for path, tree in self.trees():
            attributes = {node.attr for node in ast.walk(tree) if isinstance(node, ast.Attribute)}
            self.assertFalse((set(bound_names(tree)) | attributes) & BARRED_EVERYWHERE, path)
            self.assertFalse(set(bound_names(tree)) & BARRED_NAMES, path)
            for name in set(bound_names(tree)) | attributes:
                if not (name.startswith("__") and name.endswith("__")):
                    self.assertRegex(name, r"\A(_|_?[A-Za-z][A-Za-z0-9_]*)\Z", path)
                self.assertNotRegex(name, r"\A(_wall|_pe_|_dcw_|_enum_|_cm_|_twin_re_|_lay_|_law_|_stub_|_sre)", path)
            stored = {node.attr for node in ast.walk(tree)
                      if isinstance(node, ast.Attribute) and isinstance(node.ctx, ast.Store)}
            self.assertFalse(stored & BARRED_ATTRIBUTES, path)
            self.assertFalse([node for node in ast.walk(tree) if isinstance(node, ast.Name)
                              and isinstance(node.ctx, ast.Load) and node.id == "_"], path)

    def test_l17_words(self):
        for path in FILES:
            told = tokenize.generate_tokens(io.StringIO(path.read_text()).readline)
            for token in told:
                docstring = token.start[1] <= 8 and token.string.startswith('"""')
                if token.type != tokenize.COMMENT and not docstring:
                    self.assertIsNone(BARRED_WORDS.search(token.string), (path, token.start))

    def test_l18_no_name_is_a_method_and_an_attribute(self):
        for name, node in self.nodes(ast.ClassDef):
            methods = [item.name for item in node.body if isinstance(item, ast.FunctionDef)]
            self.assertEqual(len(methods), len(set(methods)), (name, node.name))
            stored = {item.attr for item in ast.walk(node)
                      if isinstance(item, ast.Attribute) and isinstance(item.ctx, ast.Store)}
            self.assertFalse(stored & set(methods), (name, node.name))

    def methods(self):
        """Pairs of a class and a method in it."""
        for _, node in self.nodes(ast.ClassDef):
            for item in node.body:
                if isinstance(item, ast.FunctionDef):
                    yield node, item

    def stored_attributes(self):
        return {node.attr for _, node in self.nodes(ast.Attribute) if isinstance(node.ctx, ast.Store)}

    def test_l5_what_has_items_is_not_gone_through(self):
        names = {}
        for node, item in self.methods():
            names.setdefault(node.name, set()).add(item.name)
            if item.name == "__iter__":
                self.assertEqual([type(row) for row in item.body], [ast.Raise])
                self.assertEqual(item.body[0].exc.func.id, "TypeError")
            if item.name in ("__len__", "__contains__"):
                self.assertEqual([type(row) for row in item.body], [ast.Return])
            if item.name == "__len__":
                self.assertEqual(item.body[0].value.func.id, "len")
        for name, found in names.items():
            self.assertEqual("__getitem__" in found, "__iter__" in found, name)
        # L2 Products, L25 and L5: beside such classes.
        self.assertFalse([node for _, node in self.nodes(ast.ImportFrom) if node.module == "itertools"])
        attributes = {node.attr for _, node in self.nodes(ast.Attribute)}
        self.assertFalse(attributes & {"sort", "keys"})
        for _, tree in self.trees():
            self.assertNotRegex(ast.unparse(tree), r"Meta|metaclass|\(type\)")

    def test_l5_l28_operators_and_properties_change_nothing(self):
        properties = set()
        for node, item in self.methods():
            is_property = "property" in [ast.unparse(one) for one in item.decorator_list]
            if is_property:
                properties.add(item.name)
            if is_property or item.name in ("__getitem__", "__contains__", "__eq__", "__len__"):
                for row in ast.walk(item):
                    self.assertNotIsInstance(row, (ast.AugAssign, ast.Delete), (node.name, item.name))
                    if isinstance(row, ast.Assign):
                        self.assertTrue(all(isinstance(target, ast.Name) for target in row.targets), item.name)
        self.assertFalse(properties & {item.name for _, item in self.methods() if not item.decorator_list})
        self.assertFalse(properties & self.stored_attributes())

    def test_l6_exits_only_put_attributes_back(self):
        for node, item in self.methods():
            if item.name == "__exit__":
                self.assertEqual([arg.arg for arg in item.args.args], ["self", "kind", "value", "trace"])
                for row in item.body:
                    self.assertIsInstance(row, ast.Assign, node.name)
                    self.assertTrue(all(isinstance(one, ast.Attribute) for one in (*row.targets, row.value)))

    def test_l19_what_is_caught(self):
        own = {node.name for _, node in self.nodes(ast.ClassDef)}
        for name, node in self.nodes(ast.ExceptHandler):
            told = node.type.elts if isinstance(node.type, ast.Tuple) else [node.type]
            self.assertLessEqual({one.id for one in told}, own, name)
        for name, node in self.nodes(ast.Raise):
            self.assertTrue(node.exc is None or isinstance(node.exc, ast.Call), name)
            self.assertTrue(node.exc is None or node.exc.func.id in own | {"TypeError"}, name)

    def test_l20_is(self):
        for name, node in self.nodes(ast.Compare):
            for operator, right in zip(node.ops, node.comparators):
                if isinstance(operator, (ast.Is, ast.IsNot)):
                    self.assertTrue(isinstance(right, ast.Constant) and right.value in (None, True, False), name)

    def test_l24_sets_stand_only_where_they_may(self):
        for path, tree in self.trees():
            allowed = set()
            for node in ast.walk(tree):
                if isinstance(node, ast.Call) and isinstance(node.func, ast.Name) and node.func.id in ("sorted", "len"):
                    allowed |= {id(item) for item in node.args}
                if isinstance(node, ast.Compare):
                    allowed |= {id(item) for item in node.comparators + [node.left]}
                if isinstance(node, ast.Assign):
                    allowed.add(id(node.value))
            for node in ast.walk(tree):
                is_call = isinstance(node, ast.Call) and isinstance(node.func, ast.Name) and node.func.id == "set"
                if is_call or isinstance(node, (ast.Set, ast.SetComp)):
                    self.assertIn(id(node), allowed, (path, node.lineno))

    def test_l25_methods(self):
        own = {item.name for _, node in self.nodes(ast.ClassDef) for item in node.body
               if isinstance(item, ast.FunctionDef)}
        for name, node in self.nodes(ast.Call):
            if isinstance(node.func, ast.Attribute):
                self.assertIn(node.func.attr, METHODS | own, (name, node.lineno))

    def test_l27_numbers_and_strings(self):
        for name, node in self.nodes(ast.Constant):
            if isinstance(node.value, str):
                self.assertNotIn("%", node.value, name)
        for name, node in self.nodes(ast.BinOp):
            if isinstance(node.op, ast.Pow) and not isinstance(node.right, ast.Constant):
                self.fail(f"{name}: a power that is not written out")

    def test_l23_ranges_and_zips_are_not_returned_or_passed_on(self):
        once = {"zip", "enumerate", "reversed", "range", "map"}
        takers = BUILTINS - {"set", "len", "isinstance", "reversed"}
        for path, tree in self.trees():
            for node in ast.walk(tree):
                if isinstance(node, (ast.Return, ast.Dict, ast.List, ast.Tuple)):
                    inner = list(ast.iter_child_nodes(node))
                elif isinstance(node, ast.Call) and not (isinstance(node.func, ast.Name) and node.func.id in takers):
                    inner = node.args
                else:
                    continue
                for item in inner:
                    is_once = isinstance(item, ast.Call) and isinstance(item.func, ast.Name) and item.func.id in once
                    self.assertFalse(is_once, (path, getattr(item, "lineno", None)))
