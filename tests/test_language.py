"""What of ../shared/LANGUAGE.md can be seen from the files by a short look; the rules themselves tell more."""

import ast
import builtins
import os
import re
import unittest

PACKAGE = os.path.join(os.path.dirname(os.path.dirname(os.path.abspath(__file__))), "lettermend")
LIBRARY = {"heapq": "heappush heappop heapify heapreplace heappushpop", "collections": "defaultdict",
           "math": "gcd lcm isqrt comb perm factorial",
           "itertools": "product combinations permutations chain accumulate pairwise islice zip_longest"}
LET = set("""len range enumerate zip min max sum abs sorted reversed int str bool list tuple dict set isinstance ord
repr any all divmod pow getattr hasattr setattr iter next map Exception ValueError TypeError KeyError IndexError
LookupError ZeroDivisionError ArithmeticError OverflowError RuntimeError NotImplementedError StopIteration
NotImplemented""".split())
METHODS = set("""append clear copy count endswith extend find get index insert isalnum isalpha isdigit islower isspace
isupper items join keys ljust lower lstrip partition pop remove replace reverse rfind rjust rpartition rsplit rstrip
setdefault split splitlines startswith strip update upper values zfill bit_length add discard sort isascii isdecimal
__init__""".split())
BARRED = set("""type typing typing_extensions enum Enum IntEnum StrEnum Flag IntFlag Generic Protocol ABC ABCMeta
namedtuple NamedTuple TypedDict TYPE_CHECKING abstractmethod register mro elements open input law version_info
with_traceback add_note attrgetter breakpoint builtins compile copyright credits delattr dir eval exec exit gc globals
help id importlib license locals methodcaller os quit super vars""".split())
STATEMENTS = (ast.Import, ast.Global, ast.AsyncFunctionDef, ast.AsyncFor, ast.AsyncWith, ast.Await, ast.AnnAssign)


def sources():
    """The name, the text and the tree of each file of the package."""
    for name in sorted(os.listdir(PACKAGE)):
        if name.endswith(".py"):
            with open(os.path.join(PACKAGE, name), encoding="utf-8") as file:
                text = file.read()
            yield name, text, ast.parse(text)


def bound_in(tree):
    """The names that are bound at the module level, each as often as it is."""
    names = []
    for node in tree.body:
        if isinstance(node, ast.ImportFrom):
            names += [alias.asname or alias.name for alias in node.names]
        elif isinstance(node, (ast.FunctionDef, ast.ClassDef)):
            names.append(node.name)
        elif isinstance(node, ast.Assign):
            names += [target.id for target in node.targets]
    return names


def is_plain(node):
    """Whether this may stand behind a star of a call: a name, an attribute off a name, a literal, and rows of these."""
    if isinstance(node, (ast.List, ast.Tuple)):
        return all(map(is_plain, node.elts))
    if isinstance(node, ast.Dict):
        return all(map(is_plain, node.keys + node.values))
    return isinstance(node, (ast.Name, ast.Constant)) or isinstance(node, ast.Attribute) and is_plain(node.value)


class Language(unittest.TestCase):

    def test_only_files_of_the_package(self):
        for name in os.listdir(PACKAGE):
            self.assertRegex(name, r"^([a-z_]+\.py|__pycache__)$")

    def test_sizes_and_characters(self):
        for name, text, tree in sources():
            self.assertRegex(text, r"\A[\n -~]*\Z", name)
            lines = text.splitlines()
            self.assertLessEqual(len(lines), 399, name)
            self.assertLessEqual(max(map(len, lines)), 120, name)
            for node in ast.walk(tree):
                if isinstance(node, ast.FunctionDef):
                    self.assertLessEqual(node.end_lineno - node.lineno + 1, 40, (name, node.name))

    def test_module_level(self):
        for name, _, tree in sources():
            for node in tree.body:
                plain = isinstance(node, ast.Expr) and isinstance(node.value, ast.Constant)
                plain = plain or isinstance(node, ast.Assign) and len(node.targets) == 1
                self.assertTrue(plain or isinstance(node, (ast.ImportFrom, ast.FunctionDef, ast.ClassDef)), name)
            names = bound_in(tree)
            self.assertEqual(len(names), len(set(names)), name)

    def test_imports(self):
        trees = {name[:-3]: tree for name, _, tree in sources()}
        uses = {name: [] for name in trees}
        for name, tree in trees.items():
            for node in ast.walk(tree):
                if not isinstance(node, ast.ImportFrom):
                    continue
                self.assertIn(node, tree.body)
                if node.module in LIBRARY:
                    self.assertLessEqual({alias.name for alias in node.names}, set(LIBRARY[node.module].split()))
                    continue
                package, module = node.module.split(".")
                self.assertEqual((package, node.level), ("lettermend", 0))
                own = [one.name for one in trees[module].body if isinstance(one, (ast.FunctionDef, ast.ClassDef))]
                own += [one.targets[0].id for one in trees[module].body if isinstance(one, ast.Assign)]
                for alias in node.names:
                    self.assertIn(alias.name, own, name)
                    self.assertIsNone(alias.asname)
                uses[name].append(module)
        done = []
        while len(done) < len(uses):
            free = [name for name in uses if name not in done and all(module in done for module in uses[name])]
            self.assertTrue(free, "files import from each other")
            done += free

    def test_no_import_is_idle(self):
        for name, text, tree in sources():
            for node in tree.body:
                if isinstance(node, ast.ImportFrom):
                    for alias in node.names:
                        self.assertGreater(len(re.findall(r"\b" + alias.name + r"\b", text)), 1, (name, alias.name))

    def test_names(self):
        for name, _, tree in sources():
            taken = {alias.name for node in tree.body if isinstance(node, ast.ImportFrom) for alias in node.names}
            taken |= {node.name for node in tree.body if isinstance(node, ast.ClassDef)}
            for node in ast.walk(tree):
                if isinstance(node, ast.arg) or isinstance(node, ast.Name) and not isinstance(node.ctx, ast.Load):
                    word = node.arg if isinstance(node, ast.arg) else node.id
                    self.assertNotIn(word, taken, name)
                    self.assertFalse(hasattr(builtins, word) or word in BARRED, (name, word))
                    self.assertFalse(word.startswith("__"), (name, word))
                elif isinstance(node, ast.Name):
                    self.assertNotEqual(node.id, "_", name)
                    if hasattr(builtins, node.id):
                        self.assertIn(node.id, LET, name)
                elif isinstance(node, ast.Attribute):
                    self.assertNotIn(node.attr, BARRED, name)
                elif isinstance(node, (ast.FunctionDef, ast.ClassDef)) and node.name != "__init__":
                    self.assertFalse(hasattr(builtins, node.name) or node.name in BARRED, (name, node.name))

    def test_words_that_are_barred(self):
        own = {node.name for _, _, tree in sources() for one in ast.walk(tree) if isinstance(one, ast.ClassDef)
               for node in one.body if isinstance(node, ast.FunctionDef)}
        for name, _, tree in sources():
            for node in ast.walk(tree):
                self.assertNotIsInstance(node, STATEMENTS, name)
                self.assertNotIsInstance(node, (ast.Div, ast.Set), name)
                if isinstance(node, (ast.FunctionDef, ast.ClassDef)):
                    self.assertEqual(node.decorator_list, [], name)
                if isinstance(node, ast.Constant) and isinstance(node.value, str):
                    self.assertNotIn("%", node.value, name)
                    self.assertNotIn("._", node.value, name)
                if isinstance(node, ast.Constant):
                    self.assertNotIsInstance(node.value, (float, complex), name)
                if isinstance(node, ast.Call) and isinstance(node.func, ast.Attribute):
                    self.assertIn(node.func.attr, METHODS | own, name)
                if isinstance(node, ast.ExceptHandler):
                    self.assertIsNotNone(node.type, name)

    def test_calls_with_stars(self):
        for name, _, tree in sources():
            for node in ast.walk(tree):
                if not isinstance(node, ast.Call):
                    continue
                stars = [one.value for one in node.args if isinstance(one, ast.Starred)]
                doubled = [one.value for one in node.keywords if one.arg is None]
                if stars or doubled:
                    beside = [one for one in node.args if doubled and not isinstance(one, ast.Starred)]
                    self.assertTrue(all(map(is_plain, stars + doubled + beside)), (name, node.lineno))
        for text, plain in (("rows", True), ("box.rows", True), ("(a, [1])", True), ("rows[0]", False),
                            ("f(a)", False), ("a + b", False), ("[row for row in rows]", False), ("f(a).b", False)):
            self.assertIs(is_plain(ast.parse(text, mode="eval").body), plain)


if __name__ == "__main__":
    unittest.main()
