"""Those rules of LANGUAGE.md that a look at the code can tell, for each file of the package."""

import ast
import builtins
import os
import re
import unittest

PACKAGE = os.path.join(os.path.dirname(os.path.dirname(os.path.abspath(__file__))), "asifread")

# L8, but for what other rules remove from it.
ALLOWED_BUILTINS = set(
    "len range enumerate zip min max sum abs sorted reversed int str bool list tuple dict set isinstance ord repr any "
    "all divmod Exception ValueError TypeError KeyError IndexError LookupError ZeroDivisionError ArithmeticError "
    "OverflowError RuntimeError NotImplementedError NotImplemented".split()
)
# L25, the first list and the additional methods.
ALLOWED_METHODS = set(
    "append clear copy count endswith extend find get index insert isalnum isalpha isdigit islower isspace isupper items "
    "join keys ljust lower lstrip partition pop remove replace reverse rfind rjust rpartition rsplit rstrip setdefault "
    "split splitlines startswith strip update upper values zfill bit_length title capitalize swapcase casefold center "
    "expandtabs removeprefix removesuffix rindex isascii isdecimal isnumeric istitle isidentifier isprintable".split()
)
BARRED_NAMES = set(
    "register mro elements open input law version_info with_traceback add_note attrgetter breakpoint builtins compile "
    "copyright credits delattr dir eval exec exit gc getattr globals hasattr help id importlib license locals "
    "methodcaller os quit setattr super type vars sys".split()
)
BARRED_WORDS = set(
    "type typing typing_extensions enum Enum IntEnum StrEnum Flag IntFlag Generic Protocol ABC ABCMeta namedtuple "
    "NamedTuple TypedDict TYPE_CHECKING abstractmethod dataclass overload contextmanager".split()
)
DOUBLE_METHODS = set("__init__ __eq__ __repr__ __str__ __len__ __enter__ __exit__ __call__ __iter__".split())
FUNCTION_KINDS = (ast.FunctionDef, ast.Lambda)
BARRED_NODES = (
    ast.AsyncFunctionDef, ast.AsyncFor, ast.AsyncWith, ast.Await, ast.Global, ast.Import, ast.Div, ast.MatMult,
    ast.GeneratorExp, ast.Yield, ast.YieldFrom, ast.Match, ast.NamedExpr,
)


def files():
    return sorted(name for name in os.listdir(PACKAGE) if name != "__pycache__")


def source(name):
    with open(os.path.join(PACKAGE, name), encoding="utf-8", newline="") as held:
        return held.read()


def tree(name):
    return ast.parse(source(name))


def docstrings(whole):
    """The nodes of all docstrings."""
    found = []
    for node in ast.walk(whole):
        if isinstance(node, (ast.Module, ast.ClassDef, ast.FunctionDef)) and ast.get_docstring(node) is not None:
            found.append(node.body[0].value)
    return found


def own_methods():
    return {
        node.name
        for name in files() for kind in ast.walk(tree(name)) if isinstance(kind, ast.ClassDef)
        for node in kind.body if isinstance(node, ast.FunctionDef)
    }


def bound_names(whole):
    """All names of parameters, variables, functions, classes and imports."""
    for node in ast.walk(whole):
        if isinstance(node, ast.Name) and isinstance(node.ctx, ast.Store):
            yield node.id
        elif isinstance(node, ast.arg):
            yield node.arg
        elif isinstance(node, (ast.FunctionDef, ast.ClassDef)):
            yield node.name
        elif isinstance(node, ast.alias):
            yield node.asname or node.name


def is_plain(node):
    """Whether the node is a value that L3 allows at module level."""
    if isinstance(node, (ast.Tuple, ast.List)):
        return all(is_plain(part) for part in node.elts)
    if isinstance(node, ast.Dict):
        return all(is_plain(part) for part in node.keys + node.values)
    if isinstance(node, ast.UnaryOp):
        return isinstance(node.op, ast.USub) and is_plain(node.operand)
    return isinstance(node, ast.Constant) or isinstance(node, ast.Name)


class LanguageTest(unittest.TestCase):
    def each(self):
        return [(name, tree(name)) for name in files()]

    def test_files(self):
        self.assertIn("__init__.py", files())
        for name in files():
            self.assertRegex(name, r"\A([a-z][a-z0-9_]*|__init__)\.py\Z")
            self.assertTrue(name == "__init__.py" or not hasattr(builtins, name[:-3]), name)

    def test_signs_and_sizes(self):
        for name in files():
            text = source(name)
            self.assertTrue(all(" " <= sign <= "~" or sign == "\n" for sign in text), name)
            rows = text.split("\n")
            self.assertLessEqual(len(rows), 399, name)
            self.assertLessEqual(max(len(row) for row in rows), 120, name)
            self.assertEqual(rows[-1], "", name)

    def test_functions_are_small(self):
        for name, whole in self.each():
            for node in ast.walk(whole):
                if isinstance(node, ast.FunctionDef):
                    self.assertLessEqual(node.end_lineno - node.lineno + 1, 40, node.name)
                    self.assertTrue(node.args.kwarg is None or not node.args.posonlyargs)
                    self.assertTrue(all(isinstance(mark, ast.Name) for mark in node.decorator_list))

    def test_module_level(self):
        for name, whole in self.each():
            behind_imports = False
            bound = []
            for at, node in enumerate(whole.body):
                if at == 0 and isinstance(node, ast.Expr):
                    self.assertIsInstance(node.value.value, str)
                elif isinstance(node, ast.ImportFrom):
                    self.assertFalse(behind_imports)
                    bound.extend(alias.name for alias in node.names)
                elif isinstance(node, ast.Assign):
                    behind_imports = True
                    self.assertEqual(len(node.targets), 1)
                    self.assertIsInstance(node.targets[0], ast.Name)
                    self.assertTrue(is_plain(node.value), ast.dump(node))
                    bound.append(node.targets[0].id)
                else:
                    behind_imports = True
                    self.assertIsInstance(node, (ast.FunctionDef, ast.ClassDef))
                    bound.append(node.name)
            self.assertEqual(len(bound), len(set(bound)))

    def test_lists_and_dicts_at_module_level_are_only_read(self):
        made = {
            node.targets[0].id for name, whole in self.each() for node in whole.body
            if isinstance(node, ast.Assign) and isinstance(node.value, (ast.List, ast.Dict))
        }
        self.assertIn("LENGTHS", made)
        for name, whole in self.each():
            parents = {part: node for node in ast.walk(whole) for part in ast.iter_child_nodes(node)}
            for node in ast.walk(whole):
                if isinstance(node, ast.Name) and isinstance(node.ctx, ast.Load) and node.id in made:
                    around = parents[node]
                    if isinstance(around, ast.Attribute):
                        self.assertEqual(around.attr, "get")
                    elif isinstance(around, ast.Compare):
                        self.assertIsInstance(around.ops[0], (ast.In, ast.NotIn))
                        self.assertIsNot(around.left, node)
                    else:
                        self.assertIsInstance(around, ast.Subscript, node.id)
                        self.assertIsInstance(around.ctx, ast.Load)

    def test_imports_name_the_defining_file(self):
        leads = {}
        for name, whole in self.each():
            leads[name[:-3]] = []
            for node in ast.walk(whole):
                if not isinstance(node, ast.ImportFrom):
                    continue
                self.assertEqual(node.level, 0)
                self.assertTrue(node.module.startswith("asifread."), node.module)
                file = node.module.partition(".")[2]
                leads[name[:-3]].append(file)
                defined = [
                    part.name if isinstance(part, (ast.FunctionDef, ast.ClassDef)) else part.targets[0].id
                    for part in tree(file + ".py").body
                    if isinstance(part, (ast.FunctionDef, ast.ClassDef, ast.Assign))
                ]
                for alias in node.names:
                    self.assertIsNone(alias.asname)
                    self.assertIn(alias.name, defined)
        while leads:
            ends = [file for file in leads if not any(other in leads for other in leads[file])]
            self.assertTrue(ends, "files that import each other: " + " ".join(leads))
            for file in ends:
                del leads[file]

    def test_imports_are_used(self):
        for name, whole in self.each():
            read = {node.id for node in ast.walk(whole) if isinstance(node, ast.Name) and isinstance(node.ctx, ast.Load)}
            for node in ast.walk(whole):
                if isinstance(node, ast.ImportFrom):
                    self.assertLessEqual({alias.name for alias in node.names}, read)

    def test_no_barred_statements_and_expressions(self):
        for name, whole in self.each():
            for node in ast.walk(whole):
                self.assertNotIsInstance(node, BARRED_NODES)
                if isinstance(node, ast.Constant):
                    self.assertNotIsInstance(node.value, (float, complex, bytes))

    def test_names(self):
        for name, whole in self.each():
            imported = {
                alias.name for node in ast.walk(whole) if isinstance(node, ast.ImportFrom) for alias in node.names
            }
            classes = {node.name for node in ast.walk(whole) if isinstance(node, ast.ClassDef)}
            methods = {
                node.name for kind in ast.walk(whole) if isinstance(kind, ast.ClassDef) for node in kind.body
                if isinstance(node, ast.FunctionDef)
            }
            for bound in bound_names(whole):
                if bound in methods:
                    self.assertTrue(bound in DOUBLE_METHODS or not bound.startswith("__"), bound)
                    continue
                self.assertRegex(bound, r"\A([A-Za-z]|_[A-Za-z]|_\Z)[A-Za-z0-9_]*\Z")
                self.assertFalse(hasattr(builtins, bound), bound)
                self.assertNotIn(bound, BARRED_NAMES)
            for node in ast.walk(whole):
                if isinstance(node, ast.arg) or isinstance(node, ast.Name) and isinstance(node.ctx, ast.Store):
                    told = node.arg if isinstance(node, ast.arg) else node.id
                    self.assertNotIn(told, imported | classes)

    def test_builtins(self):
        for name, whole in self.each():
            for node in ast.walk(whole):
                if isinstance(node, ast.Name) and hasattr(builtins, node.id) and node.id != "super":
                    self.assertIn(node.id, ALLOWED_BUILTINS)

    def test_methods(self):
        own = own_methods()
        for name, whole in self.each():
            for node in ast.walk(whole):
                if isinstance(node, ast.Call) and isinstance(node.func, ast.Attribute):
                    told = node.func.attr
                    self.assertTrue(told in ALLOWED_METHODS or told in own, told)
                    if told not in own:
                        self.assertEqual(node.keywords, [])

    def test_words(self):
        for name, whole in self.each():
            told = docstrings(whole)
            for node in ast.walk(whole):
                if isinstance(node, ast.Constant) and isinstance(node.value, str):
                    self.assertNotIn("%", node.value)
                    self.assertTrue(all(" " <= sign <= "~" or sign == "\n" for sign in node.value))
                    if node not in told:
                        self.assertFalse(BARRED_WORDS & set(re.findall(r"\w+", node.value)))
                        self.assertIsNone(re.search(r"\b__|\._\Z|\.__\Z", node.value))
                elif isinstance(node, (ast.Name, ast.Attribute)):
                    self.assertNotIn(node.id if isinstance(node, ast.Name) else node.attr, BARRED_WORDS)

    def test_identity_only_of_none_and_truths(self):
        for name, whole in self.each():
            for node in ast.walk(whole):
                if isinstance(node, ast.Compare):
                    for sign, right in zip(node.ops, node.comparators):
                        if isinstance(sign, (ast.Is, ast.IsNot)):
                            self.assertIsInstance(right, ast.Constant)
                            self.assertIn(repr(right.value), ["None", "True", "False"])

    def test_sets_are_sorted_or_measured_at_once(self):
        for name, whole in self.each():
            parents = {part: node for node in ast.walk(whole) for part in ast.iter_child_nodes(node)}
            for node in ast.walk(whole):
                made = isinstance(node, ast.Call) and isinstance(node.func, ast.Name) and node.func.id == "set"
                if made or isinstance(node, (ast.SetComp, ast.Set)):
                    around = parents[node]
                    self.assertIsInstance(around, ast.Call, ast.dump(node))
                    self.assertIn(around.func.id, ["sorted", "len"])

    def test_only_own_errors_are_caught(self):
        own = {node.name for node in tree("errors.py").body if isinstance(node, ast.ClassDef)}
        for name, whole in self.each():
            for node in ast.walk(whole):
                if isinstance(node, ast.Try):
                    self.assertEqual((node.orelse, node.finalbody), ([], []))
                    for handler in node.handlers:
                        self.assertIsInstance(handler.type, ast.Name)
                        self.assertIn(handler.type.id, own)
                    # `.__class__.__name__` is the only thing that is asked of a caught error.
                    caught = {handler.name for handler in node.handlers} - {None}
                    read = [part for part in ast.walk(node) if isinstance(part, ast.Name) and part.id in caught]
                    asked = [
                        part for part in ast.walk(node)
                        if isinstance(part, ast.Attribute) and part.attr == "__class__" and part.value in read
                    ]
                    self.assertEqual(len(read), len(asked))

    def test_class_names(self):
        for name, whole in self.each():
            parents = {part: node for node in ast.walk(whole) for part in ast.iter_child_nodes(node)}
            for node in ast.walk(whole):
                if isinstance(node, ast.Attribute) and node.attr.startswith("__"):
                    if node.attr == "__class__":
                        self.assertIsInstance(node.value, ast.Name)
                        self.assertEqual(parents[node].attr, "__name__")
                    elif node.attr == "__name__":
                        self.assertEqual(node.value.attr, "__class__")
                    else:
                        self.assertEqual(node.attr, "__init__")

    def test_with_goes_over_attributes_of_own_classes(self):
        for name, whole in self.each():
            for node in ast.walk(whole):
                if isinstance(node, ast.With):
                    for item in node.items:
                        self.assertIsInstance(item.context_expr, ast.Attribute)
                        self.assertIsNone(item.optional_vars)
                if isinstance(node, ast.FunctionDef) and node.name == "__exit__":
                    self.assertTrue(all(isinstance(part, ast.AugAssign) for part in node.body))

    def test_errors_are_made_where_they_are_raised(self):
        for name, whole in self.each():
            for node in ast.walk(whole):
                if isinstance(node, ast.Raise):
                    self.assertIsInstance(node.exc, ast.Call)
                    self.assertIsInstance(node.exc.func, ast.Name)
                    self.assertEqual(node.exc.keywords, [])
                    self.assertIsNone(node.cause)

    def test_methods_and_attributes_of_a_class_have_unlike_names(self):
        assigned = {
            node.attr for name, whole in self.each() for node in ast.walk(whole)
            if isinstance(node, ast.Attribute) and isinstance(node.ctx, ast.Store)
        }
        read = assigned | own_methods() | ALLOWED_METHODS | {"__class__", "__name__"}
        for name, whole in self.each():
            for kind in ast.walk(whole):
                if not isinstance(kind, ast.ClassDef):
                    continue
                methods = [node.name for node in kind.body if isinstance(node, ast.FunctionDef)]
                self.assertEqual(len(methods), len(set(methods)))
                for node in ast.walk(kind):
                    if isinstance(node, ast.Attribute) and isinstance(node.ctx, ast.Store):
                        self.assertNotIn(node.attr, methods)
            for node in ast.walk(whole):
                if isinstance(node, ast.Attribute) and isinstance(node.ctx, ast.Load):
                    self.assertIn(node.attr, read)
        # L18 allows some names that are both, in unlike classes; there is none.
        self.assertEqual(assigned & own_methods(), set())

    def test_double_underscore_methods(self):
        for name, whole in self.each():
            for kind in ast.walk(whole):
                for node in kind.body if isinstance(kind, ast.ClassDef) else []:
                    if isinstance(node, ast.FunctionDef) and node.name.startswith("__"):
                        self.assertIn(node.name, DOUBLE_METHODS)
                    if isinstance(node, ast.FunctionDef) and node.name in ("__len__", "__eq__"):
                        told = [part for part in node.body if not isinstance(part, ast.Expr)]
                        self.assertEqual([part.__class__ for part in told], [ast.Return])
                        if node.name == "__len__":
                            self.assertEqual(told[0].value.func.id, "len")
