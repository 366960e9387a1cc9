"""The rules of LANGUAGE.md that can be looked up in the code by a machine, for each file of the package."""

import ast
import io
import pathlib
import re
import tokenize
import unittest

FOLDER = pathlib.Path(__file__).resolve().parent.parent / "whateverboxes"
FILES = sorted(FOLDER.glob("*.py"))

BUILTINS = ("len range enumerate zip min max sum abs sorted reversed int str bool list tuple dict set isinstance ord "
            "repr any all divmod Exception staticmethod classmethod property NotImplemented").split()
METHODS = ("append clear copy count endswith extend find get index insert isalnum isalpha isdigit islower isspace "
           "isupper items join keys ljust lower lstrip partition pop remove replace reverse rfind rjust rpartition "
           "rsplit rstrip setdefault split splitlines startswith strip update upper values zfill bit_length "
           "add discard").split()
ERRORS = [name for name, value in vars(__import__("builtins")).items() if isinstance(value, type)
          and issubclass(value, BaseException)]
NODES = ("Module Expr Constant ImportFrom alias FunctionDef ClassDef arguments arg Assign Name Load Store Attribute Call "
         "Return If IfExp While For Break Continue Pass Raise Tuple List Dict Subscript Slice Starred Compare BoolOp "
         "UnaryOp BinOp And Or Not USub Add Sub Mult FloorDiv Mod Eq NotEq Lt LtE Gt GtE Is IsNot In NotIn ListComp "
         "comprehension JoinedStr FormattedValue AugAssign keyword Set SetComp DictComp Lambda BitAnd BitOr Try "
         "ExceptHandler Delete Del Assert Match match_case MatchSequence MatchValue MatchAs MatchStar Yield LShift "
         "RShift").split()
LIBRARY = {"heapq": ("heappush", "heappop", "heapify"), "math": ("gcd", "lcm", "isqrt", "comb"),
           "itertools": ("product", "combinations", "permutations")}
FORBIDDEN_NAMES = ("register mro elements open input law version_info with_traceback add_note attrgetter breakpoint "
                   "builtins compile copyright credits delattr dir eval exec exit gc globals help id importlib license "
                   "locals methodcaller os quit super type vars sys").split()
FORBIDDEN_WORDS = ("typing typing_extensions enum Enum IntEnum StrEnum Flag IntFlag Generic Protocol ABC ABCMeta "
                   "namedtuple NamedTuple TypedDict TYPE_CHECKING abstractmethod type").split()


def trees():
    for path in FILES:
        yield path, ast.parse(path.read_text(encoding="utf-8"))


def bound_names(tree):
    """All names that a file gives to functions, classes, parameters and variables."""
    for node in ast.walk(tree):
        if isinstance(node, (ast.FunctionDef, ast.ClassDef)):
            yield node.name
        elif isinstance(node, ast.arg):
            yield node.arg
        elif isinstance(node, ast.Name) and isinstance(node.ctx, ast.Store):
            yield node.id
        elif isinstance(node, ast.alias):
            yield node.asname or node.name
        elif isinstance(node, ast.MatchAs) and node.name:
            yield node.name


class LanguageTest(unittest.TestCase):
    def test_the_folder_holds_plain_files_alone(self):
        self.assertGreaterEqual(len(FILES), 5)
        for path in FOLDER.iterdir():
            if path.name != "__pycache__":
                self.assertTrue(path.name == "__init__.py" or re.fullmatch("[a-z][a-z0-9_]*[.]py", path.name), path)

    def test_sizes_and_characters(self):
        for path, tree in trees():
            text = path.read_text(encoding="utf-8")
            self.assertTrue(re.fullmatch("[ -~\n]*", text), path)
            lines = text.split("\n")
            self.assertLessEqual(len(lines), 399, path)
            for line in lines:
                self.assertLessEqual(len(line), 120, (path, line))
            for node in ast.walk(tree):
                if isinstance(node, ast.FunctionDef):
                    self.assertLessEqual(node.end_lineno - node.lineno + 1, 40, (path, node.name))

    def test_only_known_parts_of_the_language(self):
        for path, tree in trees():
            for node in ast.walk(tree):
                self.assertIn(type(node).__name__, NODES, (path, ast.dump(node)[:100]))
                if isinstance(node, ast.Constant):
                    self.assertIn(type(node.value), (int, str, bool, type(None)), path)
                    self.assertNotIn("%", str(node.value), path)
                if isinstance(node, (ast.FunctionDef, ast.ClassDef)):
                    for one in node.decorator_list:
                        self.assertIn(ast.unparse(one), ("staticmethod", "classmethod", "property"))

    def test_imports(self):
        defined = {path.stem: [node.name for node in tree.body if isinstance(node, (ast.FunctionDef, ast.ClassDef))]
                   + [node.targets[0].id for node in tree.body if isinstance(node, ast.Assign)]
                   for path, tree in trees()}
        needed = {}
        for path, tree in trees():
            everything = [node for node in ast.walk(tree) if isinstance(node, ast.ImportFrom)]
            imports = [node for node in everything if node.module not in LIBRARY]
            needed[path.stem] = [node.module.split(".")[1] for node in imports]
            for node in everything:
                self.assertIn(node, tree.body)
                self.assertEqual([one.asname for one in node.names], [None] * len(node.names))
            for node in everything:
                if node.module in LIBRARY:
                    self.check_library(path, tree, node)
            for node in imports:
                self.assertEqual((node.level, node.module.split(".")[0]), (0, "whateverboxes"))
                for one in node.names:
                    self.assertIn(one.name, defined[node.module.split(".")[1]])
            names = [one.name for node in everything for one in node.names]
            words = [node.id for node in ast.walk(tree) if isinstance(node, ast.Name)]
            for name in names:
                self.assertIn(name, words, path)
                self.assertEqual([one for one in bound_names(tree)].count(name), 1, (path, name))
        while needed:
            free = [name for name, others in needed.items() if not any(other in needed for other in others)]
            self.assertTrue(free, needed)
            for name in free:
                del needed[name]

    def check_library(self, path, tree, node):
        """The names are known ones, and are only called, with all arguments by position and without a star."""
        calls = [one for one in ast.walk(tree) if isinstance(one, ast.Call)]
        for one in node.names:
            self.assertIn(one.name, LIBRARY[node.module], path)
            called = [call for call in calls if ast.unparse(call.func) == one.name]
            words = [word for word in ast.walk(tree) if isinstance(word, ast.Name) and word.id == one.name]
            self.assertEqual(len(called), len(words), (path, one.name))
            for call in called:
                self.assertEqual(call.keywords, [], path)
                self.assertFalse(any(isinstance(entry, ast.Starred) for entry in call.args), path)

    def test_operators_and_properties_change_nothing(self):
        for path, tree in trees():
            for node in ast.walk(tree):
                if isinstance(node, ast.FunctionDef) and (node.name in ("__mul__", "__and__", "__contains__", "__len__")
                                                          or "property" in map(ast.unparse, node.decorator_list)):
                    for one in ast.walk(node):
                        self.assertFalse(isinstance(one, ast.Attribute) and not isinstance(one.ctx, ast.Load), path)
                        self.assertFalse(isinstance(one, ast.Lambda), path)

    def test_names(self):
        builtin_names = [name for name in vars(__import__("builtins")) if not name.startswith("__")]
        for path, tree in trees():
            own = [name for name in bound_names(tree)]
            for name in own:
                if not re.fullmatch("__[a-z]+__", name):
                    self.assertTrue(re.fullmatch("_|_?[A-Za-z][A-Za-z0-9_]*", name), (path, name))
                self.assertNotIn(name, builtin_names, path)
                self.assertNotIn(name, FORBIDDEN_NAMES, path)
            for node in ast.walk(tree):
                if isinstance(node, ast.Name) and isinstance(node.ctx, ast.Load):
                    self.assertIn(node.id, own + BUILTINS + ["self", "cls"], path)
                    self.assertNotEqual(node.id, "_", path)

    def test_methods_that_are_called(self):
        own = [node.name for _, tree in trees() for one in tree.body if isinstance(one, ast.ClassDef)
               for node in one.body if isinstance(node, ast.FunctionDef)]
        for path, tree in trees():
            for node in ast.walk(tree):
                if isinstance(node, ast.Call) and isinstance(node.func, ast.Attribute):
                    self.assertIn(node.func.attr, own + METHODS, path)

    def test_errors_that_are_raised_and_caught(self):
        for path, tree in trees():
            handlers = [node for node in ast.walk(tree) if isinstance(node, ast.ExceptHandler)]
            for node in handlers:
                self.assertIsInstance(node.type, ast.Name, path)
                self.assertNotIn(node.type.id, ERRORS, path)
            again = [one for node in handlers for one in ast.walk(node) if isinstance(one, ast.Raise) and not one.exc]
            for node in ast.walk(tree):
                if isinstance(node, ast.Raise) and node not in again:
                    self.assertIsInstance(node.exc, ast.Call)
                    self.assertIsInstance(node.exc.func, ast.Name)
                    self.assertNotIn(node.exc.func.id, ERRORS, path)

    def test_generators_are_iterated_at_once(self):
        everything = [tree for _, tree in trees()]
        functions = [node for tree in everything for node in ast.walk(tree) if isinstance(node, ast.FunctionDef)]
        makers = [node for node in functions if any(isinstance(one, ast.Yield) for one in ast.walk(node))]
        for maker in makers:
            self.assertEqual([node.name for node in functions].count(maker.name), 1)
            self.assertEqual(maker.decorator_list, [])
            for node in ast.walk(maker):
                self.assertNotIsInstance(node, (ast.Try, ast.With, ast.Lambda))
                self.assertFalse(isinstance(node, ast.Return) and node.value)
        names = [maker.name for maker in makers]
        for tree in everything:
            heads = [node.iter for node in ast.walk(tree) if isinstance(node, (ast.For, ast.comprehension))]
            for node in ast.walk(tree):
                if isinstance(node, ast.Call) and ast.unparse(node.func).split(".")[-1] in names:
                    self.assertIn(node, heads)
            statements = [node.value for node in ast.walk(tree) if isinstance(node, ast.Expr)]
            for node in ast.walk(tree):
                if isinstance(node, ast.Yield):
                    self.assertIn(node, statements)

    def test_names_of_methods_and_attributes(self):
        plain, static, kept = {}, [], {}
        for _, tree in trees():
            for made in [node for node in tree.body if isinstance(node, ast.ClassDef)]:
                for node in [node for node in made.body if isinstance(node, ast.FunctionDef)]:
                    words = [ast.unparse(one) for one in node.decorator_list]
                    (static if words == ["staticmethod"] else plain.setdefault(made.name, [])).append(node.name)
                for node in ast.walk(made):
                    if isinstance(node, ast.Attribute) and isinstance(node.ctx, ast.Store):
                        kept.setdefault(made.name, []).append(node.attr)
        for name, methods in plain.items():
            self.assertEqual(len(methods), len(set(methods)), name)
            self.assertFalse(set(methods) & set(kept.get(name, [])), name)
            self.assertFalse(set(methods) & set(static), name)
        for name, attributes in kept.items():
            self.assertFalse(set(attributes) & set(static), name)

    def test_words_outside_of_comments_and_docstrings(self):
        for path, tree in trees():
            text = path.read_text(encoding="utf-8")
            docs = [node.body[0].value.lineno for node in ast.walk(tree)
                    if isinstance(node, (ast.Module, ast.ClassDef, ast.FunctionDef)) and ast.get_docstring(node)]
            for token in tokenize.generate_tokens(io.StringIO(text).readline):
                if token.type != tokenize.COMMENT and not (token.type == tokenize.STRING and token.start[0] in docs):
                    for word in re.findall("[A-Za-z_]+", token.string):
                        self.assertNotIn(word, FORBIDDEN_WORDS, path)

    def test_sets_are_only_measured_and_asked(self):
        for path, tree in trees():
            for node in ast.walk(tree):
                for child in ast.iter_child_nodes(node):
                    if isinstance(child, ast.Call) and ast.unparse(child.func) == "set":
                        self.assertIn(ast.unparse(getattr(node, "func", node)), ("len", "sorted"), path)

    def test_module_level_holds_plain_values_alone(self):
        for path, tree in trees():
            for node in tree.body:
                self.assertIsInstance(node, (ast.Expr, ast.ImportFrom, ast.FunctionDef, ast.ClassDef, ast.Assign), path)
                if isinstance(node, ast.Assign):
                    ast.literal_eval(node.value)
                if isinstance(node, ast.Expr):
                    self.assertIsInstance(node.value.value, str)


if __name__ == "__main__":
    unittest.main()
