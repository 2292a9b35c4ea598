"""Rules of the language subset that can be seen from outside, over every file of the package."""

import ast
import pathlib
import re
import unittest

PACKAGE = pathlib.Path(__file__).resolve().parent.parent / "clicktrain"

BUILTINS = set("""len range enumerate zip min max sum abs sorted reversed int str bool bytes list tuple dict set
isinstance ord repr any all divmod iter next Exception ValueError TypeError KeyError IndexError LookupError
ZeroDivisionError ArithmeticError OverflowError RuntimeError NotImplementedError AttributeError StopIteration
NotImplemented""".split())

BARRED_WORDS = """type typing typing_extensions enum Enum IntEnum StrEnum Flag IntFlag Generic Protocol ABC ABCMeta
namedtuple NamedTuple TypedDict TYPE_CHECKING abstractmethod""".split()

BARRED_NAMES = """register mro elements open input law version_info with_traceback add_note attrgetter breakpoint
builtins compile copyright credits delattr dir eval exec exit gc getattr globals hasattr help id importlib license
locals methodcaller os quit setattr type vars sys hash map filter format round pow print""".split()

NODES_LEFT_OUT = (ast.Global, ast.AsyncFunctionDef, ast.AsyncFor, ast.AsyncWith, ast.Await, ast.Div, ast.MatMult,
                  ast.Import)

# Methods of texts, lists and dicts that may be called.
METHODS = set("""append clear copy count endswith extend find get index insert isalnum isalpha isdigit islower isspace
isupper items join keys ljust lower lstrip partition pop remove replace reverse rfind rjust rpartition rsplit rstrip
setdefault split splitlines startswith strip update upper values zfill bit_length add discard""".split())


def parsed():
    for path in sorted(PACKAGE.rglob("*.py")):
        text = path.read_text(encoding="utf-8")
        yield path.name, text, ast.parse(text)


def bound_names(tree):
    for node in ast.walk(tree):
        if isinstance(node, (ast.FunctionDef, ast.ClassDef)):
            yield node.name
        elif isinstance(node, ast.arg):
            yield node.arg
        elif isinstance(node, ast.Name) and not isinstance(node.ctx, ast.Load):
            yield node.id
        elif isinstance(node, ast.alias):
            yield node.asname or node.name


def top_names(tree):
    """The names that a file binds itself at module level."""
    found = []
    for node in tree.body:
        if isinstance(node, (ast.FunctionDef, ast.ClassDef)):
            found.append(node.name)
        elif isinstance(node, ast.Assign):
            found += [target.id for target in node.targets]
    return found


class Language(unittest.TestCase):
    def test_the_package_holds_python_files_only(self):
        names = [path.name for path in PACKAGE.iterdir() if path.name != "__pycache__"]
        self.assertIn("__init__.py", names)
        for name in names:
            self.assertRegex(name, r"\A(__init__|[a-z][a-z0-9_]*)\.py\Z")

    def test_sizes_and_signs(self):
        for name, text, tree in parsed():
            lines = text.split("\n")
            self.assertLessEqual(len(lines), 399, name)
            for line in lines:
                self.assertLessEqual(len(line), 120, (name, line))
                self.assertRegex(line, r"\A[ -~]*\Z", (name, line))
            for node in ast.walk(tree):
                if isinstance(node, ast.FunctionDef):
                    self.assertLessEqual(node.end_lineno - node.lineno + 1, 40, (name, node.name))

    def test_words_and_names(self):
        for name, text, tree in parsed():
            for word in BARRED_WORDS:
                self.assertIsNone(re.search(rf"\b{word}\b", text), (name, word))
            for bound in bound_names(tree):
                self.assertNotIn(bound, BUILTINS, name)
                self.assertNotIn(bound, BARRED_NAMES, name)
                self.assertTrue(bound == "__init__" or not bound.startswith("_"), (name, bound))

    def test_only_told_builtins_are_used(self):
        for name, text, tree in parsed():
            known = BUILTINS | set(bound_names(tree))
            for node in ast.walk(tree):
                if isinstance(node, ast.Name):
                    self.assertIn(node.id, known, name)

    def test_imports_and_statements(self):
        for name, text, tree in parsed():
            for node in ast.walk(tree):
                self.assertNotIsInstance(node, NODES_LEFT_OUT, name)
                if isinstance(node, ast.ImportFrom):
                    self.assertEqual(node.level, 0, name)
                    self.assertTrue(node.module.startswith("clicktrain."), (name, node.module))
                if isinstance(node, ast.Constant):
                    self.assertNotIsInstance(node.value, float, name)
                    self.assertNotIn("%", node.value if isinstance(node.value, str) else "", name)

    def test_imports_name_the_file_that_defines_and_go_no_ring(self):
        defines = {name[:-3]: set(top_names(tree)) for name, text, tree in parsed()}
        ahead = {name[:-3]: sorted({node.module.split(".")[1] for node in tree.body if isinstance(node,
                                                                                                  ast.ImportFrom)})
                 for name, text, tree in parsed()}
        for name, text, tree in parsed():
            for node in tree.body:
                if isinstance(node, ast.ImportFrom):
                    for alias in node.names:
                        self.assertIn(alias.name, defines[node.module.split(".")[1]], name)
                        used = [inner.id for inner in ast.walk(tree) if isinstance(inner, ast.Name)]
                        self.assertIn(alias.asname or alias.name, used, name)
        for start in ahead:
            reached, new = set(), list(ahead[start])
            while new:
                module = new.pop()
                if module not in reached:
                    reached.add(module)
                    new += ahead[module]
            self.assertNotIn(start, reached)

    def test_names_are_bound_once_and_never_hide_an_import_or_a_class(self):
        for name, text, tree in parsed():
            imported = [alias.asname or alias.name for node in tree.body if isinstance(node, ast.ImportFrom)
                        for alias in node.names]
            bound = imported + top_names(tree)
            self.assertEqual(len(set(bound)), len(bound), name)
            hidden = set(imported) | {node.name for node in tree.body if isinstance(node, ast.ClassDef)}
            for function in [node for node in ast.walk(tree) if isinstance(node, ast.FunctionDef)]:
                local = set(bound_names(function)) - {function.name}
                self.assertFalse(local & hidden, (name, function.name, local & hidden))

    def test_no_name_is_a_method_and_an_attribute(self):
        methods, attributes = set(), set()
        for name, text, tree in parsed():
            for node in ast.walk(tree):
                if isinstance(node, ast.ClassDef):
                    methods |= {inner.name for inner in node.body if isinstance(inner, ast.FunctionDef)}
                if isinstance(node, ast.Attribute) and isinstance(node.ctx, ast.Store):
                    attributes.add(node.attr)
        self.assertFalse(methods & attributes)
        for name, text, tree in parsed():
            for node in ast.walk(tree):
                if isinstance(node, ast.Attribute):
                    self.assertIn(node.attr, methods | attributes | METHODS, name)

    def test_module_level_values_hold_no_list_or_dict_within(self):
        for name, text, tree in parsed():
            for node in tree.body:
                if isinstance(node, ast.Assign):
                    inner = [one for one in ast.walk(node.value) if one is not node.value]
                    self.assertFalse([one for one in inner if isinstance(one,
                                                                         (ast.List, ast.Dict, ast.Set, ast.Call))],
                                                                         name)

    def test_is_stands_with_none_and_truths_alone(self):
        for name, text, tree in parsed():
            for node in ast.walk(tree):
                if isinstance(node, ast.Compare) and any(isinstance(sign, (ast.Is, ast.IsNot)) for sign in node.ops):
                    self.assertIsInstance(node.comparators[0], ast.Constant, name)
                    self.assertIn(node.comparators[0].value, (None, True, False), name)


if __name__ == "__main__":
    unittest.main()
