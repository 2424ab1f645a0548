"""The rules for the files of the package that can be seen without running them (L1 to L28, in part)."""

import ast
import builtins
import os
import re
import unittest

PACKAGE = os.path.join(os.path.dirname(os.path.dirname(os.path.abspath(__file__))), "askrights")

ALLOWED_BUILTINS = set("""len range enumerate zip min max sum abs sorted reversed int str bool list tuple dict set
isinstance ord repr any all divmod iter next Exception ValueError TypeError KeyError IndexError LookupError
ZeroDivisionError ArithmeticError OverflowError RuntimeError NotImplementedError AttributeError StopIteration
NotImplemented""".split())

ALLOWED_METHODS = set("""append clear copy count endswith extend find get index insert isalnum isalpha isdigit islower
isspace isupper items join keys ljust lower lstrip partition pop remove replace reverse rfind rjust rpartition rsplit
rstrip setdefault split splitlines startswith strip update upper values zfill bit_length add discard""".split())

BARRED_WORDS = set("""type typing typing_extensions enum Enum IntEnum StrEnum Flag IntFlag Generic Protocol ABC ABCMeta
namedtuple NamedTuple TypedDict TYPE_CHECKING abstractmethod""".split())

BARRED_NAMES = set("""register mro elements open input law version_info with_traceback add_note attrgetter breakpoint
builtins compile copyright credits delattr dir eval exec exit gc getattr globals hasattr help id importlib license
locals methodcaller os quit setattr super vars sys format format_map""".split())

BARRED_NODES = (ast.Global, ast.AsyncFunctionDef, ast.AsyncFor, ast.AsyncWith, ast.Await, ast.Div, ast.MatMult,
                ast.GeneratorExp, ast.Import, ast.AnnAssign)

SPECIAL_METHODS = {"__init__", "__eq__", "__repr__", "__str__", "__len__"}


def sources():
    for name in sorted(os.listdir(PACKAGE)):
        if name != "__pycache__":
            with open(os.path.join(PACKAGE, name), encoding="utf-8") as source:
                yield name, source.read()


class Language(unittest.TestCase):
    def nodes(self):
        for name, text in sources():
            for node in ast.walk(ast.parse(text)):
                yield name, node

    def own_functions(self):
        return {node.name for name, node in self.nodes() if isinstance(node, ast.FunctionDef)}

    def test_files(self):
        names = [name for name, text in sources()]
        self.assertIn("__init__.py", names)
        self.assertLessEqual(len(names), 100)
        for name, text in sources():
            self.assertRegex(name, r"\A(__init__|[a-z][a-z0-9_]*)\.py\Z")
            self.assertNotIn(name[:-3], dir(builtins))
            self.assertLessEqual(len(text.splitlines()), 399, name)
            self.assertRegex(text, r"\A[ -~\n]*\Z", name)
            for line in text.splitlines():
                self.assertLessEqual(len(line), 120, name)

    def test_words(self):
        for name, text in sources():
            self.assertEqual(set(re.findall(r"\w+", text)) & BARRED_WORDS, set(), name)
            self.assertIsNone(re.search("dataclass|overload|contextmanager", text), name)

    def test_nodes(self):
        for name, node in self.nodes():
            self.assertNotIsInstance(node, BARRED_NODES, name)
            if isinstance(node, ast.Compare) and any(isinstance(op, (ast.Is, ast.IsNot)) for op in node.ops):
                right = node.comparators[0]
                self.assertTrue(isinstance(right, ast.Constant) and right.value in (None, True, False), name)
            if isinstance(node, ast.Constant):
                self.assertNotIsInstance(node.value, (float, complex), name)
                self.assertFalse(isinstance(node.value, str) and chr(37) in node.value, name)
            if isinstance(node, ast.BinOp) and isinstance(node.op, ast.Pow):
                self.assertTrue(isinstance(node.right, ast.Constant) and 0 <= node.right.value <= 64, name)

    def test_functions(self):
        for name, node in self.nodes():
            if isinstance(node, ast.FunctionDef):
                self.assertLessEqual(node.end_lineno - node.lineno + 1, 40, (name, node.name))
                self.assertEqual(node.decorator_list, [], (name, node.name))
                self.assertTrue(not node.name.startswith("_") or node.name in SPECIAL_METHODS, (name, node.name))
                self.assertEqual(node.args.posonlyargs, [], (name, node.name))

    def test_names(self):
        for name, node in self.nodes():
            bound = []
            if isinstance(node, ast.Name) and isinstance(node.ctx, ast.Store):
                bound = [node.id]
            elif isinstance(node, ast.arg):
                bound = [node.arg]
            elif isinstance(node, (ast.FunctionDef, ast.ClassDef)):
                bound = [node.name]
            for word in bound:
                self.assertNotIn(word, BARRED_NAMES, name)
                self.assertNotIn(word, dir(builtins), name)
                self.assertTrue(word in SPECIAL_METHODS or not word.startswith("_"), (name, word))

    def test_builtins_and_methods(self):
        own = self.own_functions()
        for name, node in self.nodes():
            if isinstance(node, ast.Name) and isinstance(node.ctx, ast.Load) and node.id in dir(builtins):
                self.assertIn(node.id, ALLOWED_BUILTINS, name)
            if isinstance(node, ast.Call) and isinstance(node.func, ast.Attribute):
                self.assertTrue(node.func.attr in ALLOWED_METHODS | own, (name, node.func.attr))

    def test_imports(self):
        imported = {}
        for name, text in sources():
            tree = ast.parse(text)
            imported[name[:-3]] = []
            for node in tree.body:
                if isinstance(node, ast.ImportFrom):
                    self.assertEqual(node.level, 0, name)
                    self.assertRegex(node.module, r"\Aaskrights\.[a-z]+\Z", name)
                    imported[name[:-3]].append((node.module.split(".")[1], [alias.name for alias in node.names]))
        trees = {name[:-3]: ast.parse(text) for name, text in sources()}
        for name, pairs in imported.items():
            for module, words in pairs:
                defined = {node.name for node in trees[module].body if isinstance(node, (ast.FunctionDef, ast.ClassDef))}
                defined |= {target.id for node in trees[module].body if isinstance(node, ast.Assign)
                            for target in node.targets}
                self.assertEqual(set(words) - defined, set(), name)
        graph = {name: [module for module, words in pairs] for name, pairs in imported.items()}
        for name in graph:
            self.assertNotIn(name, self.reached(graph, graph[name]))

    def reached(self, graph, start):
        seen, waiting = set(), list(start)
        while waiting:
            name = waiting.pop()
            if name not in seen:
                seen.add(name)
                waiting += graph[name]
        return seen

    def test_no_local_name_is_that_of_an_import_or_a_class(self):
        for name, text in sources():
            tree = ast.parse(text)
            taken = {alias.name for node in tree.body if isinstance(node, ast.ImportFrom) for alias in node.names}
            taken |= {node.name for node in tree.body if isinstance(node, ast.ClassDef)}
            for node in ast.walk(tree):
                if isinstance(node, ast.Name) and isinstance(node.ctx, ast.Store):
                    self.assertNotIn(node.id, taken, name)
                if isinstance(node, ast.arg):
                    self.assertNotIn(node.arg, taken, name)

    def test_imports_are_used(self):
        for name, text in sources():
            tree = ast.parse(text)
            used = {node.id for node in ast.walk(tree) if isinstance(node, ast.Name)}
            for node in tree.body:
                if isinstance(node, ast.ImportFrom):
                    self.assertEqual({alias.name for alias in node.names} - used, set(), name)

    def test_only_own_errors_are_caught(self):
        own = {node.name for name, node in self.nodes() if isinstance(node, ast.ClassDef)}
        for name, node in self.nodes():
            if isinstance(node, ast.ExceptHandler):
                self.assertIn(node.type.id, own, name)
            if isinstance(node, ast.Raise) and node.exc is not None:
                self.assertIn(node.exc.func.id, own, name)

    def test_finally_counts_only(self):
        for name, node in self.nodes():
            if isinstance(node, ast.Try):
                for statement in node.finalbody:
                    self.assertRegex(ast.unparse(statement), r"\Aself\.[a-z]+ \+= 1\Z", name)

    def test_special_methods(self):
        found = []
        for name, node in self.nodes():
            if isinstance(node, ast.FunctionDef) and node.name in ("__eq__", "__len__", "__str__", "__repr__"):
                found.append((name, node.name))
                returned = [ast.unparse(one.value) for one in ast.walk(node) if isinstance(one, ast.Return)]
                forms = {"__eq__": r"isinstance\(other, [A-Z]\w+\) and self\.(\w+) == other\.\1", "__len__": r"len\(.*\)"}
                for text in returned:
                    self.assertIsNotNone(re.fullmatch(forms.get(node.name, r"'[^']*'|'[^']*'\.join\(.*\)"), text), (name, text))
                self.assertIsInstance(node.body[-1], ast.Return)
        self.assertEqual(sorted(found), [("worlds.py", "__eq__"), ("worlds.py", "__len__"), ("worlds.py", "__str__")])

    def test_no_name_is_a_method_and_an_attribute(self):
        methods, attributes = set(), set()
        for name, node in self.nodes():
            if isinstance(node, ast.ClassDef):
                methods |= {item.name for item in node.body if isinstance(item, ast.FunctionDef)}
            if isinstance(node, ast.Attribute) and isinstance(node.ctx, ast.Store):
                attributes.add(node.attr)
        self.assertEqual(methods & attributes, set())


if __name__ == "__main__":
    unittest.main()
