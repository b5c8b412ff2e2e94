"""Whether the files of the package keep to the rules of LANGUAGE.md that a walk over the code can see.

In some places this is narrower than the rules: no +=, no sets, no generators, no :=, as the package needs none of them.
"""

import ast
import builtins
import pathlib
import re
import tokenize
import unittest

ROOT = pathlib.Path(__file__).resolve().parent.parent / "surerise"
FILES = sorted(ROOT.rglob("*.py"))
LIBRARY = {
    "heapq": {"heappush", "heappop", "heapify", "heapreplace", "heappushpop"},
    "math": {"gcd", "lcm", "isqrt", "comb", "perm", "factorial"},
    "itertools": {"product", "combinations", "permutations"},
}
BUILTINS = set(
    "len range enumerate zip min max sum abs sorted reversed int str bool list tuple dict isinstance ord repr any all"
    " divmod ValueError LookupError ArithmeticError TypeError KeyError ZeroDivisionError NotImplementedError"
    " NotImplemented property"
    " staticmethod classmethod super map".split()
)
METHODS = set(
    "append clear copy count endswith extend find get index insert isalnum isalpha isdigit islower isspace isupper"
    " items join keys ljust lower lstrip partition pop remove replace reverse rfind rjust rpartition rsplit rstrip setdefault"
    " split splitlines startswith strip update upper values zfill bit_length setter".split()
)
SPECIAL = set(
    "init eq repr str len enter exit call iter lt le gt ge ne add sub mul floordiv mod pow and or xor radd rsub rmul"
    " iadd isub imul iand ior neg pos invert abs bool contains getitem setitem".split()
)
WORDS = (
    "type typing typing_extensions enum Enum IntEnum StrEnum Flag IntFlag Generic Protocol ABC ABCMeta namedtuple"
    " NamedTuple TypedDict TYPE_CHECKING abstractmethod register mro elements open input law version_info"
    " with_traceback add_note eval exec getattr setattr hasattr globals locals vars dir id compile"
).split()
BARRED_NODES = (
    ast.Global, ast.Nonlocal, ast.AsyncFunctionDef, ast.Await, ast.AsyncFor, ast.AsyncWith, ast.GeneratorExp,
    ast.Set, ast.SetComp, ast.NamedExpr, ast.AugAssign, ast.Yield, ast.YieldFrom, ast.Div, ast.Import, ast.AnnAssign,
)
NOT_AS_ATTRIBUTES = set(
    "items keys values pop update append clear extend insert remove reverse setdefault sort args encode decode hex"
    " fromhex format format_map mro".split()
)


def trees():
    for path in FILES:
        yield path, ast.parse(path.read_text(encoding="utf-8"))


def nodes(*kinds):
    for path, tree in trees():
        for node in ast.walk(tree):
            if isinstance(node, kinds):
                yield f"{path.name}:{getattr(node, 'lineno', 0)}", node


def bound_names(node):
    if isinstance(node, ast.Name) and isinstance(node.ctx, ast.Store):
        return [node.id]
    if isinstance(node, ast.arg):
        return [node.arg]
    if isinstance(node, (ast.FunctionDef, ast.ClassDef)):
        return [node.name]
    if isinstance(node, ast.ExceptHandler):
        return [node.name] if node.name else []
    return []


class Files(unittest.TestCase):
    def test_only_plain_files(self):
        held = [p for p in ROOT.rglob("*") if "__pycache__" not in p.parts]
        self.assertEqual(sorted(p for p in held if p.is_file()), FILES)
        self.assertIn(ROOT / "__init__.py", FILES)
        for path in FILES:
            self.assertRegex(path.name, r"^([a-z][a-z0-9_]*|__init__|__main__)\.py$")

    def test_signs_and_sizes(self):
        for path in FILES:
            text = path.read_text(encoding="utf-8")
            self.assertRegex(text, r"\A[ -~\n]*\Z", path.name)
            lines = text.split("\n")
            self.assertLessEqual(len(lines), 399, path.name)
            self.assertLessEqual(max(map(len, lines)), 120, path.name)

    def test_size_of_functions(self):
        for at, node in nodes(ast.FunctionDef):
            self.assertLessEqual(node.end_lineno - node.lineno + 1, 40, f"{at} {node.name}")

    def test_module_level(self):
        for path, tree in trees():
            for node in tree.body:
                docstring = isinstance(node, ast.Expr) and isinstance(node.value, ast.Constant)
                allowed = (ast.ImportFrom, ast.FunctionDef, ast.ClassDef, ast.Assign)
                self.assertTrue(docstring or isinstance(node, allowed), f"{path.name}:{node.lineno}")

    def test_imports(self):
        above = {}
        for path, tree in trees():
            above[path.stem] = set()
            for node in ast.walk(tree):
                if not isinstance(node, ast.ImportFrom):
                    continue
                at = f"{path.name}:{node.lineno}"
                self.assertEqual(node.level, 0, at)
                names = {alias.name for alias in node.names}
                self.assertFalse([alias for alias in node.names if alias.asname], at)
                if node.module in LIBRARY:
                    self.assertLessEqual(names, LIBRARY[node.module], at)
                    continue
                package, stem = node.module.split(".")
                self.assertEqual(package, "surerise", at)
                above[path.stem].add(stem)
                there = ast.parse((ROOT / f"{stem}.py").read_text())
                self.assertLessEqual(names, {n for part in there.body for n in self.names_of(part)}, at)
        while above:
            free = [stem for stem in above if not above[stem] & set(above)]
            self.assertTrue(free, f"these import from each other: {sorted(above)}")
            for stem in free:
                del above[stem]

    def names_of(self, part):
        if isinstance(part, ast.Assign):
            return [target.id for target in part.targets]
        return bound_names(part)

    def test_imports_are_used(self):
        for path, tree in trees():
            used = {node.id for node in ast.walk(tree) if isinstance(node, ast.Name)}
            for node in ast.walk(tree):
                if isinstance(node, ast.ImportFrom):
                    self.assertLessEqual({alias.name for alias in node.names}, used, path.name)


class Code(unittest.TestCase):
    def test_no_barred_statements(self):
        for at, node in nodes(*BARRED_NODES):
            self.fail(f"{at} {ast.dump(node)[:60]}")

    def test_builtins(self):
        known = set(dir(builtins))
        for at, node in nodes(ast.Name):
            if isinstance(node.ctx, ast.Load) and node.id in known:
                self.assertIn(node.id, BUILTINS, at)
        for path, tree in trees():
            methods = {id(m) for c in ast.walk(tree) if isinstance(c, ast.ClassDef) for m in c.body}
            for node in ast.walk(tree):
                barred = BUILTINS if id(node) in methods else known
                self.assertFalse([n for n in bound_names(node) if n in barred], f"{path.name}:{node!r}")

    def test_names(self):
        for at, node in nodes(ast.Name, ast.arg, ast.FunctionDef, ast.ClassDef, ast.Attribute, ast.keyword):
            for field in ("id", "arg", "name", "attr"):
                name = getattr(node, field, None)
                if name is None or (name.startswith("__") and name[2:-2] in SPECIAL | {"name", "class"}):
                    continue
                self.assertRegex(name, r"^(_?[A-Za-z][A-Za-z0-9_]*|_)$", at)
                self.assertNotIn(name, WORDS, at)

    def test_no_parameter_hides_an_import_or_a_class(self):
        for path, tree in trees():
            taken = {alias.name for n in ast.walk(tree) if isinstance(n, ast.ImportFrom) for alias in n.names}
            taken |= {n.name for n in tree.body if isinstance(n, ast.ClassDef)}
            for node in ast.walk(tree):
                if isinstance(node, (ast.Name, ast.arg)):
                    self.assertFalse(taken & set(bound_names(node)), f"{path.name}:{node.lineno}")

    def test_one_binding_at_module_level(self):
        for path, tree in trees():
            names = [alias.name for n in tree.body if isinstance(n, ast.ImportFrom) for alias in n.names]
            names += [name for part in tree.body for name in Files.names_of(self, part)]
            self.assertEqual(len(names), len(set(names)), path.name)

    def test_constants(self):
        for at, node in nodes(ast.Constant):
            self.assertNotIsInstance(node.value, (float, complex, bytes), at)
            if isinstance(node.value, str):
                self.assertNotIn("%", node.value, at)
                self.assertFalse(node.value.startswith("__"), at)

    def test_words_and_escapes(self):
        for path in FILES:
            with tokenize.open(path) as lines:
                for token in tokenize.generate_tokens(lines.readline):
                    at = f"{path.name}:{token.start[0]}"
                    if token.type == tokenize.STRING:
                        self.assertFalse(re.search(r"\\[^nt\\'\"]", token.string), at)
                    if token.type == tokenize.STRING and not token.string.startswith('"""'):
                        self.assertFalse(set(re.findall(r"\w+", token.string)) & set(WORDS[:21]), at)

    def test_decorators(self):
        for at, node in nodes(ast.FunctionDef, ast.ClassDef):
            for decorator in node.decorator_list:
                plain = isinstance(decorator, ast.Name) and decorator.id in ("property", "staticmethod", "classmethod")
                setter = isinstance(decorator, ast.Attribute) and decorator.attr == "setter"
                self.assertTrue(plain or setter, at)

    def test_methods_that_are_called(self):
        own = {node.name for _, node in nodes(ast.FunctionDef)}
        for at, node in nodes(ast.Call):
            if isinstance(node.func, ast.Attribute):
                self.assertIn(node.func.attr, own | METHODS, at)

    def test_attributes(self):
        for at, node in nodes(ast.Attribute):
            if isinstance(node.ctx, ast.Store):
                self.assertNotIn(node.attr, NOT_AS_ATTRIBUTES, at)

    def test_special_methods(self):
        for at, node in nodes(ast.FunctionDef):
            if node.name.startswith("__"):
                self.assertIn(node.name[2:-2], SPECIAL, at)

    def test_is(self):
        for at, node in nodes(ast.Compare):
            if any(isinstance(op, (ast.Is, ast.IsNot)) for op in node.ops):
                self.assertIsInstance(node.comparators[-1], ast.Constant, at)

    def test_errors_are_raised_and_caught_by_name(self):
        for at, node in nodes(ast.Raise):
            if node.exc is not None:
                self.assertIsInstance(node.exc, ast.Call, at)
                self.assertIsInstance(node.exc.func, ast.Name, at)
        for at, node in nodes(ast.ExceptHandler):
            for caught in node.type.elts if isinstance(node.type, ast.Tuple) else [node.type]:
                self.assertIsInstance(caught, ast.Name, at)
                self.assertNotIn(caught.id, dir(builtins), at)

    def test_sorted_has_a_key(self):
        # Where classes compare by their own signs, only plain numbers and strings are sorted.
        for at, node in nodes(ast.Call):
            if isinstance(node.func, ast.Name) and node.func.id == "sorted":
                self.assertIn(ast.unparse(node.keywords[0]), ("key=str", "key=int", "key=len"), at)

    def test_max_and_min_of_plain_numbers(self):
        # Where a class has an order, they take what is plainly numbers, or a key that makes it so.
        for at, node in nodes(ast.Call):
            if isinstance(node.func, ast.Name) and node.func.id in ("max", "min"):
                keyed = [ast.unparse(keyword) for keyword in node.keywords if keyword.arg == "key"]
                plain = [arg for arg in node.args if isinstance(arg, ast.Constant) or ast.unparse(arg).startswith("len(")]
                self.assertTrue(keyed == ["key=int"] or (len(node.args) == 2 and plain), at)

    def test_no_name_is_a_method_and_an_attribute(self):
        methods = {m.name for _, c in nodes(ast.ClassDef) for m in c.body if isinstance(m, ast.FunctionDef)}
        stored = {node.attr for _, node in nodes(ast.Attribute) if isinstance(node.ctx, ast.Store)}
        self.assertEqual(methods & stored - {"ceiling"}, set())
        self.assertFalse(stored & set(dir(str) + dir(int) + dir(list) + dir(dict) + dir(set)) - {"count", "index"})

    def test_class_methods_have_names_of_their_own(self):
        plain, made = set(), set()
        for _, part in nodes(ast.ClassDef):
            for method in part.body:
                if isinstance(method, ast.FunctionDef):
                    decorators = [ast.unparse(decorator) for decorator in method.decorator_list]
                    bound = made if decorators in (["staticmethod"], ["classmethod"]) else plain
                    bound.add(method.name)
        self.assertEqual(plain & made, set())

    def test_classes_with_an_order_or_reflected_methods_stand_alone(self):
        classes = [node for _, node in nodes(ast.ClassDef)]
        bases = {base.id for node in classes for base in node.bases}
        for node in classes:
            names = {part.name for part in node.body if isinstance(part, ast.FunctionDef)}
            if names & {"__le__", "__ge__", "__lt__", "__gt__", "__rmul__", "__radd__"}:
                self.assertFalse(node.bases or node.name in bases, node.name)

    def test_every_function_and_method_tells_what_it_does(self):
        for at, node in nodes(ast.FunctionDef, ast.ClassDef):
            if not node.name.startswith("_"):
                setter = isinstance(node, ast.FunctionDef) and any("setter" in ast.unparse(d) for d in node.decorator_list)
                self.assertTrue(setter or ast.get_docstring(node), f"{at} {node.name}")


if __name__ == "__main__":
    unittest.main()
