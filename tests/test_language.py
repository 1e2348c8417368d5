"""The rules of the language that can be told from the code by simple means, for all files of the package."""

import ast
import builtins
import io
import os
import re
import tokenize
import unittest

from helpers import ROOT

PACKAGE = os.path.join(ROOT, "everycut")
BUILTINS = set("""len range enumerate zip min max sum abs sorted reversed int str bool bytes list tuple dict set frozenset
    isinstance ord repr any all divmod pow getattr hasattr iter next map Exception ValueError TypeError KeyError IndexError
    LookupError ZeroDivisionError ArithmeticError OverflowError RuntimeError NotImplementedError AttributeError
    StopIteration NotImplemented property staticmethod classmethod super""".split())
METHODS = set("""append clear copy count endswith extend find get index insert isalnum isalpha isdigit islower isspace isupper
    items join keys ljust lower lstrip partition pop remove replace reverse rfind rjust rpartition rsplit rstrip setdefault
    split splitlines startswith strip update upper values zfill bit_length isascii isdecimal add discard""".split())
SPECIAL = set("""__init__ __eq__ __repr__ __str__ __len__ __enter__ __exit__ __call__ __iter__ __lt__ __contains__""".split())
BARRED = set("""type typing enum Enum Generic Protocol ABC ABCMeta namedtuple NamedTuple TypedDict TYPE_CHECKING
    abstractmethod register mro elements open input law version_info eval exec compile globals locals vars dir id hash
    delattr os sys gc""".split())
LIBRARY = {"heapq": {"heappush", "heappop", "heapify"}, "math": {"gcd", "lcm", "isqrt", "comb"},
           "itertools": {"product", "combinations", "permutations", "chain", "accumulate", "pairwise"},
           "collections": {"defaultdict"}}
FUNCTIONS = (ast.FunctionDef, ast.Lambda)


def files():
    for folder, _, names in sorted(os.walk(PACKAGE)):
        if "__pycache__" not in folder:
            for name in sorted(names):
                yield os.path.join(folder, name)


def module_of(path):
    parts = os.path.relpath(path, ROOT)[:-3].split(os.sep)
    return ".".join(parts[:-1] if parts[-1] == "__init__" else parts)


def parsed():
    for path in files():
        with open(path, encoding="utf-8") as file:
            text = file.read()
        tree = ast.parse(text)
        for node in ast.walk(tree):
            for child in ast.iter_child_nodes(node):
                child.parent = node
        yield path, text, tree


def docstrings(tree):
    found = set()
    for node in ast.walk(tree):
        if isinstance(node, (ast.Module, ast.FunctionDef, ast.ClassDef)) and ast.get_docstring(node) is not None:
            found.add(node.body[0].value)
    return found


def bound(tree):
    """All names that are bound somewhere in a tree, with their nodes."""
    for node in ast.walk(tree):
        if isinstance(node, (ast.FunctionDef, ast.ClassDef)):
            yield node.name, node
        elif isinstance(node, ast.arg):
            yield node.arg, node
        elif isinstance(node, ast.Name) and isinstance(node.ctx, ast.Store):
            yield node.id, node
        elif isinstance(node, ast.ExceptHandler) and node.name is not None:
            yield node.name, node
        elif isinstance(node, ast.ImportFrom):
            for alias in node.names:
                yield alias.asname or alias.name, node


def plain(node):
    """Whether an expression at module level is a plain value."""
    if isinstance(node, ast.Constant):
        return not isinstance(node.value, (float, complex))
    if isinstance(node, (ast.Tuple, ast.List)):
        return all(map(plain, node.elts))
    if isinstance(node, ast.Dict):
        return all(map(plain, node.keys)) and all(map(plain, node.values))
    if isinstance(node, ast.BinOp):
        return plain(node.left) and plain(node.right)
    return isinstance(node, ast.Name) or (isinstance(node, ast.UnaryOp) and plain(node.operand))


class Language(unittest.TestCase):
    def setUp(self):
        self.modules = list(parsed())
        self.methods = {node.name for _, _, tree in self.modules for node in ast.walk(tree)
                        if isinstance(node, ast.FunctionDef)}
        self.wrong = []

    def tearDown(self):
        self.assertEqual(self.wrong, [])

    def say(self, path, node, why):
        self.wrong.append((os.path.relpath(path, ROOT), getattr(node, "lineno", node), why))

    def each(self, kind):
        for path, _, tree in self.modules:
            for node in ast.walk(tree):
                if isinstance(node, kind):
                    yield path, node

    def test_files_and_sizes(self):
        self.assertLessEqual(len(self.modules), 100)
        for path, text, tree in self.modules:
            name = os.path.basename(path)
            if not re.fullmatch(r"[a-z0-9_]+\.py", name):
                self.say(path, 0, "L1 L14 name")
            if not os.path.exists(os.path.join(os.path.dirname(path), "__init__.py")):
                self.say(path, 0, "L14 folder without __init__")
            if os.path.isdir(path[:-3]):
                self.say(path, 0, "L14 folder of the same name")
            if not re.fullmatch(r"[ -~\n]*", text):
                self.say(path, 0, "L14 characters")
            lines = text.split("\n")
            if len(lines) > 399 or max(map(len, lines)) > 120:
                self.say(path, 0, "L10")
        for path, node in self.each(ast.FunctionDef):
            if node.end_lineno - node.lineno + 1 > 40:
                self.say(path, node, "L10 function")

    def test_module_level(self):
        for path, _, tree in self.modules:
            for node in tree.body:
                is_name = isinstance(node, ast.Assign) and len(node.targets) == 1 and isinstance(node.targets[0], ast.Name)
                is_doc = node is tree.body[0] and isinstance(node, ast.Expr) and isinstance(node.value, ast.Constant)
                if isinstance(node, (ast.ImportFrom, ast.FunctionDef, ast.ClassDef)) or is_doc:
                    continue
                if not is_name or not plain(node.value):
                    self.say(path, node, "L3")
            top = [node.name for node in tree.body if isinstance(node, (ast.FunctionDef, ast.ClassDef))]
            top += [node.targets[0].id for node in tree.body if isinstance(node, ast.Assign)]
            top += [alias.name for node in tree.body if isinstance(node, ast.ImportFrom) for alias in node.names]
            if len(top) != len(set(top)):
                self.say(path, 0, "L15 bound twice")

    def test_imports(self):
        defines = {module_of(path): {node.name for node in tree.body if isinstance(node, (ast.FunctionDef, ast.ClassDef))}
                   | {node.targets[0].id for node in tree.body if isinstance(node, ast.Assign)}
                   for path, _, tree in self.modules}
        graph = {}
        for path, node in self.each((ast.Import, ast.ImportFrom)):
            if isinstance(node, ast.Import) or node.level or not isinstance(node.parent, ast.Module):
                self.say(path, node, "L2")
                continue
            for alias in node.names:
                if alias.asname or alias.name not in {**defines, **LIBRARY}.get(node.module, ()):
                    self.say(path, node, "L2 L16")
            graph.setdefault(module_of(path), set()).add(node.module)
        for start in graph:
            seen, waiting = set(), list(graph[start])
            while waiting:
                name = waiting.pop()
                if name not in seen:
                    seen.add(name)
                    waiting.extend(graph.get(name, ()))
            if start in seen:
                self.say(start, 0, "L16 files that import from each other")

    def test_names(self):
        for path, _, tree in self.modules:
            outer = {node.name for node in tree.body if isinstance(node, ast.ClassDef)}
            outer |= {alias.name for node in tree.body if isinstance(node, ast.ImportFrom) for alias in node.names}
            for name, node in bound(tree):
                if hasattr(builtins, name) and name not in SPECIAL:
                    self.say(path, node, f"L15 {name}")
                if name.startswith("__") and name not in SPECIAL:
                    self.say(path, node, f"L8 {name}")
                if isinstance(node, (ast.arg, ast.Name)) and name in outer:
                    self.say(path, node, f"L15 {name}")
                if name == "_" and not isinstance(node, ast.Name):
                    self.say(path, node, "L12")
            known = {name for name, _ in bound(tree)} | BUILTINS
            for node in ast.walk(tree):
                if isinstance(node, ast.Name) and isinstance(node.ctx, ast.Load):
                    if node.id not in known or node.id == "_":
                        self.say(path, node, f"L8 L12 {node.id}")

    def test_statements_and_expressions(self):
        barred = (ast.Global, ast.AsyncFunctionDef, ast.AsyncFor, ast.AsyncWith, ast.Await, ast.Div, ast.NamedExpr,
                  ast.MatMult, ast.AnnAssign, ast.GeneratorExp)
        for path, node in self.each(barred):
            self.say(path, node, type(node).__name__)
        for path, node in self.each(ast.Constant):
            if isinstance(node.value, (float, complex)) or node.value is ...:
                self.say(path, node, "L7 float")
        for path, node in self.each(ast.Compare):
            for sign, right in zip(node.ops, node.comparators):
                if isinstance(sign, (ast.Is, ast.IsNot)) and not (isinstance(right, ast.Constant) and right.value in (
                        None, True, False)):
                    self.say(path, node, "L20")
        for path, node in self.each(ast.Pow):
            right = node.parent.right if hasattr(node, "parent") else None
            if right is not None and not (isinstance(right, ast.Constant) and 0 <= right.value <= 64):
                self.say(path, node, "L27")
        for path, node in self.each((ast.ListComp, ast.SetComp, ast.DictComp)):
            if len(node.generators) > 6 or sum(len(made.ifs) for made in node.generators) > 12:
                self.say(path, node, "L7 comprehension")

    def test_sets(self):
        for path, node in self.each((ast.Call, ast.SetComp, ast.Set)):
            is_set = not isinstance(node, ast.Call) or (isinstance(node.func, ast.Name) and node.func.id == "set")
            around = node.parent
            if not is_set or isinstance(around, ast.Assign):
                continue
            is_call = isinstance(around, ast.Call) and isinstance(around.func, ast.Name)
            if not (is_call and around.func.id in ("sorted", "len") and not around.keywords):
                if not isinstance(around, ast.Compare):
                    self.say(path, node, "L24")

    def test_calls(self):
        for path, node in self.each(ast.Call):
            if isinstance(node.func, ast.Attribute):
                if node.func.attr not in METHODS | self.methods:
                    self.say(path, node, f"L25 {node.func.attr}")
                if node.func.attr in METHODS and node.keywords:
                    self.say(path, node, "L25 keywords")
            elif not isinstance(node.func, ast.Name):
                self.say(path, node, "L7 call")
            elif node.func.id in BUILTINS:
                for keyword in node.keywords:
                    if keyword.arg not in ("key", "reverse", "default", "start", "strict"):
                        self.say(path, node, "L22")

    def test_functions_and_classes(self):
        for path, node in self.each(ast.FunctionDef):
            for made in node.decorator_list:
                name = made.id if isinstance(made, ast.Name) else getattr(made, "attr", None)
                if name not in ("property", "setter", "staticmethod", "classmethod"):
                    self.say(path, node, "L4")
            for value in node.args.defaults + [given for given in node.args.kw_defaults if given is not None]:
                if not plain(value):
                    self.say(path, node, "L4 default")
            if node.name in ("__len__", "__str__", "__repr__") and not isinstance(node.body[-1], ast.Return):
                self.say(path, node, "L28")
            if node.name.startswith("__") and not isinstance(node.parent, ast.ClassDef):
                self.say(path, node, "L28")
        for path, node in self.each(ast.ClassDef):
            if node.decorator_list or node.keywords or not isinstance(node.parent, ast.Module):
                self.say(path, node, "L5")
            stored = {target.attr for target in ast.walk(node) if isinstance(target, ast.Attribute)
                      and isinstance(target.ctx, ast.Store)}
            methods = {made.name for made in node.body if isinstance(made, ast.FunctionDef)}
            if stored & methods:
                self.say(path, node, f"L18 {stored & methods}")
        assigned = {node.attr for _, node in self.each(ast.Attribute) if isinstance(node.ctx, ast.Store)} | self.methods
        for path, node in self.each(ast.Attribute):
            if node.attr not in assigned | METHODS:
                self.say(path, node, f"L18 {node.attr}")
        for path, node in self.each(ast.Raise):
            if node.exc is not None and not (isinstance(node.exc, ast.Call) and isinstance(node.exc.func, ast.Name)):
                self.say(path, node, "L19")

    def test_words_and_strings(self):
        for path, text, tree in self.modules:
            docs = docstrings(tree)
            for node in ast.walk(tree):
                if isinstance(node, ast.Constant) and isinstance(node.value, str) and node not in docs:
                    if "%" in node.value or "\\" in node.value or node.value.endswith(("._", ".__")):
                        self.say(path, node, "L27")
                    if node.value.startswith("__") and node.value.endswith("__"):
                        self.say(path, node, "L27")
            for token in tokenize.generate_tokens(io.StringIO(text).readline):
                if token.type == tokenize.NAME and (token.string in BARRED or re.match(
                        r"_wall|_pe_|_dcw_|_enum_|_cm_|_twin_re_|_lay_|_law_|_stub_|_sre|"
                        r"_(cold|tuplegetter|outside|record|written_out|member_names)(?![a-z])", token.string)):
                    self.say(path, token.start[0], f"L12 L17 {token.string}")

    def test_generators_have_names_of_their_own(self):
        made = [node.name for _, node in self.each(ast.FunctionDef)
                if any(isinstance(part, (ast.Yield, ast.YieldFrom)) for part in ast.walk(node))]
        names = [node.name for _, node in self.each(ast.FunctionDef)]
        for name in made:
            self.assertEqual(names.count(name), 1, name)
