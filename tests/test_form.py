"""Rules for the form of the package's code, as far as a plain look at it can tell."""

import ast
import builtins
import os
import unittest

FOLDER = os.path.join(os.path.dirname(os.path.dirname(os.path.abspath(__file__))), "loopsbeside")
BUILTINS = """len range enumerate zip min max sum abs sorted reversed int str bool list tuple dict set isinstance ord
repr any all divmod Exception ValueError TypeError KeyError IndexError LookupError""".split()
LIBRARY = {"math": ["gcd", "lcm", "isqrt", "comb", "perm", "factorial"],
           "itertools": ["product", "combinations", "permutations"]}
METHODS = """append clear copy count endswith extend find get index insert isdigit items join keys partition pop
remove replace reverse setdefault split splitlines startswith strip update values bit_length zfill""".split()
NOT_ALLOWED = (ast.AsyncFunctionDef, ast.Await, ast.Global, ast.Nonlocal, ast.Div, ast.JoinedStr, ast.Yield,
               ast.GeneratorExp, ast.NamedExpr, ast.With, ast.Match, ast.AnnAssign)
OWN_ERRORS = ["NoPlace", "NothingDone", "BadLine", "CanNot", "TooMuch", "Unfit"]
AT_ONCE = ["range", "zip", "enumerate", "reversed"]
TAKERS = ["list", "tuple", "dict", "sorted", "sum", "any", "all", "enumerate", "zip", "reversed"]
BARRED = ["register", "mro", "elements", "open", "input", "law", "type", "id", "vars", "dir", "eval", "exec", "os"]


def sources():
    for name in sorted(os.listdir(FOLDER)):
        if name != "__pycache__":
            with open(os.path.join(FOLDER, name), encoding="utf-8") as file:
                yield name, file.read()


def bound_names(tree):
    """The names that a tree binds: targets, parameters, functions, classes."""
    for node in ast.walk(tree):
        if isinstance(node, ast.Name) and not isinstance(node.ctx, ast.Load):
            yield node.id
        elif isinstance(node, ast.arg):
            yield node.arg
        elif isinstance(node, (ast.FunctionDef, ast.ClassDef)):
            yield node.name


def imports(tree):
    """The triples (module, name, whether it is renamed) of what is imported."""
    for node in ast.walk(tree):
        if isinstance(node, ast.ImportFrom):
            for alias in node.names:
                yield node.module, alias.name, alias.asname is not None or node.level != 0


class Form(unittest.TestCase):
    def test_files_and_lines(self):
        for name, text in sources():
            self.assertRegex(name, r"^[a-z_]+\.py$")
            lines = text.split("\n")
            self.assertLessEqual(len(lines), 400, name)
            for line in lines:
                self.assertLessEqual(len(line), 120, name)
                self.assertTrue(all(" " <= sign <= "~" for sign in line), (name, line))

    def test_functions(self):
        for name, text in sources():
            for node in ast.walk(ast.parse(text)):
                if isinstance(node, ast.FunctionDef):
                    self.assertLessEqual(node.end_lineno - node.lineno + 1, 40, (name, node.name))
                    self.assertEqual(node.decorator_list, [])
                    self.assertIsNotNone(ast.get_docstring(node) or node.name == "__init__" or None, node.name)

    def test_imports(self):
        modules = [name[:-3] for name, _ in sources()]
        edges = {}
        for name, text in sources():
            tree = ast.parse(text)
            self.assertFalse([node for node in ast.walk(tree) if isinstance(node, ast.Import)], name)
            used = {node.id for node in ast.walk(tree) if isinstance(node, ast.Name)}
            edges[name[:-3]] = []
            for module, imported, renamed in imports(tree):
                self.assertFalse(renamed, name)
                self.assertIn(imported, used, name)
                if module in LIBRARY:
                    self.assertIn(imported, LIBRARY[module])
                    continue
                self.assertTrue(module.startswith("loopsbeside.") and module[12:] in modules, name)
                edges[name[:-3]].append(module[12:])
                with open(os.path.join(FOLDER, module[12:] + ".py"), encoding="utf-8") as file:
                    self.assertIn(imported, list(bound_names(ast.parse(file.read()))), name)
        self.check_no_circle(edges)

    def check_no_circle(self, edges):
        while edges:
            free = [name for name in edges if not [other for other in edges[name] if other in edges]]
            self.assertTrue(free, edges)
            for name in free:
                del edges[name]

    def test_names(self):
        for name, text in sources():
            tree = ast.parse(text)
            imported = [what for _, what, _ in imports(tree)]
            bound = list(bound_names(tree))
            own = [node.name for node in tree.body if isinstance(node, (ast.FunctionDef, ast.ClassDef))]
            for what in bound:
                self.assertNotIn(what, imported, name)
                if what != "__init__":
                    self.assertFalse(hasattr(builtins, what) or what in BARRED or what.startswith("__"), (name, what))
            local = [what for function in ast.walk(tree) if isinstance(function, ast.FunctionDef)
                     for part in function.body + [function.args] for what in bound_names(part)]
            self.assertEqual([what for what in local if what in own], [], name)
            for node in ast.walk(tree):
                if isinstance(node, ast.Name) and isinstance(node.ctx, ast.Load):
                    self.assertNotEqual(node.id, "_", name)
                    if hasattr(builtins, node.id):
                        self.assertIn(node.id, BUILTINS, name)

    def test_expressions(self):
        stored = [node.attr for _, text in sources() for node in ast.walk(ast.parse(text))
                  if isinstance(node, ast.Attribute) and isinstance(node.ctx, ast.Store)]
        methods = [node.name for _, text in sources() for owner in ast.walk(ast.parse(text))
                   if isinstance(owner, ast.ClassDef) for node in owner.body if isinstance(node, ast.FunctionDef)]
        self.assertEqual([name for name in stored if name in METHODS or name in methods], [])
        for name, text in sources():
            tree = ast.parse(text)
            for node in ast.walk(tree):
                self.assertNotIsInstance(node, NOT_ALLOWED, (name, getattr(node, "lineno", None)))
                if isinstance(node, ast.Constant):
                    self.assertNotIsInstance(node.value, (float, complex, bytes), name)
                if isinstance(node, ast.Attribute):
                    self.assertTrue(node.attr in METHODS + stored + methods, (name, node.attr))
                if isinstance(node, ast.Compare) and isinstance(node.ops[0], (ast.Is, ast.IsNot)):
                    self.assertIn(node.comparators[0].value, [None, True, False], name)
                if isinstance(node, ast.BinOp) and isinstance(node.op, ast.Pow):
                    self.assertIsInstance(node.right, ast.Constant, name)
                if isinstance(node, ast.ExceptHandler):
                    self.assertIn(node.type.id, OWN_ERRORS, name)
                    self.assertIsNone(node.name, name)
                if isinstance(node, ast.Raise):
                    self.assertIn(node.exc.func.id, OWN_ERRORS, name)

    def test_iterated_at_once(self):
        for name, text in sources():
            tree = ast.parse(text)
            held = []
            for node in ast.walk(tree):
                if isinstance(node, (ast.For, ast.comprehension)):
                    held.append(id(node.iter))
                elif isinstance(node, ast.Call) and isinstance(node.func, ast.Name) and node.func.id in TAKERS:
                    held.extend(id(arg) for arg in node.args)
            for node in ast.walk(tree):
                if isinstance(node, ast.Call) and isinstance(node.func, ast.Name) and node.func.id in AT_ONCE:
                    self.assertIn(id(node), held, (name, node.lineno))
                if isinstance(node, ast.Call) and isinstance(node.func, ast.Attribute) and node.func.attr == "items":
                    self.assertIn(id(node), held, (name, node.lineno))

    def test_no_star_in_an_index(self):
        for name, text in sources():
            for node in ast.walk(ast.parse(text)):
                if isinstance(node, ast.Subscript):
                    stars = [inner.lineno for inner in ast.walk(node.slice) if isinstance(inner, ast.Starred)]
                    self.assertEqual(stars, [], name)

    def test_sets_stand_in_calls_only(self):
        for name, text in sources():
            tree = ast.parse(text)
            held = [id(node.args[0]) for node in ast.walk(tree) if isinstance(node, ast.Call) and node.args
                    and isinstance(node.func, ast.Name) and node.func.id in ("sorted", "len") and not node.keywords]
            for node in ast.walk(tree):
                if isinstance(node, (ast.SetComp, ast.Set)):
                    self.assertIn(id(node), held, name)
                if isinstance(node, ast.Set):
                    self.assertEqual([part for part in node.elts if isinstance(part, ast.Starred)], [], name)

    def test_module_level(self):
        for name, text in sources():
            above = []
            for at, node in enumerate(ast.parse(text).body):
                docstring = at == 0 and isinstance(node, ast.Expr) and isinstance(node.value, ast.Constant)
                kinds = (ast.ImportFrom, ast.FunctionDef, ast.ClassDef, ast.Assign)
                self.assertTrue(docstring or isinstance(node, kinds), name)
                if isinstance(node, ast.FunctionDef):
                    above.append(node.name)
                if isinstance(node, ast.Assign):
                    self.assertEqual(len(node.targets), 1, name)
                    self.check_plain(node.value, above)

    def check_plain(self, value, above):
        """A literal value, or a table of functions that are defined above."""
        if isinstance(value, ast.Dict) and all(isinstance(part, ast.Name) for part in value.values):
            self.assertEqual([part.id for part in value.values if part.id not in above], [])
            value = ast.Dict(keys=value.keys, values=value.keys)
        ast.literal_eval(value)
