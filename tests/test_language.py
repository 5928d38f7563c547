"""The rules of the language subset that a look at the code can check, over all files of the package."""

import ast
import builtins
import pathlib
import re
import string
import unittest

PACKAGE = pathlib.Path(__file__).resolve().parent.parent / "draftward"
FILES = sorted(PACKAGE.glob("*.py"))

BUILTINS = set("""len range enumerate zip min max sum abs sorted reversed int str bool bytes list tuple dict set isinstance ord
    repr any all divmod Exception ValueError TypeError KeyError IndexError LookupError ZeroDivisionError""".split())
LIBRARY = {
    "heapq": {"heappush", "heappop", "heapify", "heapreplace", "heappushpop"},
    "math": {"gcd", "lcm", "isqrt", "comb", "perm", "factorial"},
    "itertools": {"product", "combinations", "permutations", "chain", "accumulate", "pairwise", "islice", "zip_longest"},
    "collections": {"defaultdict"},
}
METHODS = set("""append clear copy count endswith extend find get index insert isalnum isalpha isdigit islower isspace isupper
    items join keys ljust lower lstrip partition pop remove replace reverse rfind rjust rpartition rsplit rstrip setdefault
    split splitlines startswith strip update upper values zfill bit_length add discard sort removeprefix""".split())
BARRED = set("""type typing typing_extensions enum Enum IntEnum StrEnum Flag IntFlag Generic Protocol ABC ABCMeta namedtuple
    NamedTuple TypedDict TYPE_CHECKING abstractmethod dataclass overload contextmanager register mro elements open input law
    version_info with_traceback add_note eval exec compile globals locals vars dir id os sys _wall _WallAttr""".split())
STATEMENTS = (ast.FunctionDef, ast.ClassDef, ast.ImportFrom, ast.Assign, ast.Expr)
NOT_ALLOWED = (ast.Global, ast.AsyncFunctionDef, ast.AsyncFor, ast.AsyncWith, ast.Await, ast.Import, ast.AnnAssign, ast.Div)


def tree_of(file):
    return ast.parse(file.read_text(encoding="utf-8"))


def all_nodes():
    for file in FILES:
        for node in ast.walk(tree_of(file)):
            yield f"{file.name}:{getattr(node, 'lineno', 0)}", node


def is_plain(node):
    """Tell whether an assignment at module level gives one name a value that is written out."""
    if len(node.targets) != 1 or not isinstance(node.targets[0], ast.Name):
        return False
    return not any(isinstance(part, (ast.Call, ast.Lambda)) for part in ast.walk(node.value))


def own_methods():
    """Return the names of the methods, and those of the attributes, of all classes of the package."""
    methods = set()
    attributes = set()
    for _, node in all_nodes():
        if isinstance(node, ast.ClassDef):
            methods |= {part.name for part in node.body if isinstance(part, ast.FunctionDef)}
        if isinstance(node, ast.Attribute) and isinstance(node.ctx, ast.Store):
            attributes.add(node.attr)
    return methods - {"__init__"}, attributes


def own_names(tree):
    found = []
    for node in tree.body:
        if isinstance(node, (ast.FunctionDef, ast.ClassDef)):
            found.append(node.name)
        elif isinstance(node, ast.Assign):
            found.append(node.targets[0].id)
    return found


class Language(unittest.TestCase):

    def test_the_folder_holds_plain_files_alone(self):
        for path in PACKAGE.iterdir():
            self.assertTrue(path.name == "__pycache__" or re.fullmatch("[a-z0-9_]+[.]py", path.name), path.name)
        self.assertIn("__init__.py", [file.name for file in FILES])

    def test_characters_and_sizes(self):
        for file in FILES:
            text = file.read_bytes().decode("ascii")
            self.assertTrue(set(text) <= set(string.printable) - set("\t\r\x0b\x0c"), file.name)
            self.assertLessEqual(len(text.splitlines()), 399, file.name)
            self.assertLessEqual(max(map(len, text.splitlines())), 120, file.name)

    def test_functions_are_small(self):
        for place, node in all_nodes():
            if isinstance(node, ast.FunctionDef):
                self.assertLessEqual(node.end_lineno - node.lineno + 1, 40, place)
                self.assertEqual(node.decorator_list, [], place)

    def test_module_level(self):
        for file in FILES:
            tree = tree_of(file)
            for node in tree.body:
                self.assertIsInstance(node, STATEMENTS, file.name)
                if isinstance(node, ast.Expr):
                    self.assertIs(node, tree.body[0], file.name)
                    self.assertIsInstance(node.value, ast.Constant)
                if isinstance(node, ast.Assign):
                    self.assertTrue(is_plain(node), file.name)
            names = own_names(tree)
            self.assertEqual(len(names), len(set(names)), file.name)

    def test_imports(self):
        for file in FILES:
            seen_other = False
            for node in tree_of(file).body[1:]:
                if not isinstance(node, ast.ImportFrom):
                    seen_other = True
                    continue
                self.assertFalse(seen_other, file.name)
                self.assertEqual(node.level, 0, file.name)
                self.check_import(node, file.name)

    def check_import(self, node, place):
        names = {alias.name for alias in node.names}
        self.assertEqual({alias.asname for alias in node.names}, {None}, place)
        if node.module in LIBRARY:
            self.assertLessEqual(names, LIBRARY[node.module], place)
            return
        self.assertRegex(node.module, "^draftward[.][a-z_]+$", place)
        imported = PACKAGE / (node.module.split(".")[1] + ".py")
        self.assertLessEqual(names, set(own_names(tree_of(imported))), place)

    def test_no_two_files_import_from_each_other(self):
        needs = {file.stem: {node.module.split(".")[1] for node in tree_of(file).body
                             if isinstance(node, ast.ImportFrom) and node.module.startswith("draftward.")}
                 for file in FILES}
        while needs:
            ready = [name for name in needs if not needs[name] & set(needs)]
            self.assertTrue(ready, needs)
            for name in ready:
                del needs[name]

    def test_statements_and_signs(self):
        for place, node in all_nodes():
            self.assertNotIsInstance(node, NOT_ALLOWED, place)
            if isinstance(node, ast.Constant):
                self.assertNotIsInstance(node.value, (float, complex), place)
                self.assertNotIn("%", node.value if isinstance(node.value, str) else "", place)
            if isinstance(node, ast.BinOp) and isinstance(node.op, ast.Pow):
                self.assertIsInstance(node.right, ast.Constant, place)
            if isinstance(node, ast.Compare) and any(isinstance(sign, (ast.Is, ast.IsNot)) for sign in node.ops):
                self.assertIsInstance(node.comparators[0], ast.Constant, place)

    def test_no_index_has_a_star_in_its_brackets(self):
        for place, node in all_nodes():
            if isinstance(node, ast.Subscript):
                stars = [part for part in ast.walk(node.slice) if isinstance(part, ast.Starred)]
                self.assertEqual(stars, [], place)

    def test_names_and_methods(self):
        # The doctest runner may leave a "_" among the builtins.
        words = set(dir(builtins)) - {"_"}
        own = {name for file in FILES for name in own_names(tree_of(file))}
        methods, _ = own_methods()
        self.assertFalse(own & words)
        for place, node in all_nodes():
            if isinstance(node, ast.Name):
                self.assertNotIn(node.id, BARRED, place)
                if node.id in words:
                    self.assertIn(node.id, BUILTINS, place)
                    self.assertIsInstance(node.ctx, ast.Load, place)
            if isinstance(node, ast.arg):
                self.assertNotIn(node.arg, words | BARRED, place)
                self.assertIsNone(node.annotation, place)
            if isinstance(node, ast.Call) and isinstance(node.func, ast.Attribute):
                self.assertIn(node.func.attr, METHODS | methods, place)

    def test_methods_and_attributes_have_names_of_their_own(self):
        methods, attributes = own_methods()
        self.assertFalse(methods & attributes)
        for name in methods | attributes:
            self.assertRegex(name, "^_?[a-z][a-z_]*$")
            self.assertFalse([kind for kind in (int, str, list, dict, set, bytes, tuple) if hasattr(kind, name)], name)
            self.assertNotIn(name, BARRED)

    def test_attributes_are_assigned_through_self_by_methods(self):
        for place, node in all_nodes():
            if isinstance(node, ast.Attribute) and isinstance(node.ctx, ast.Store):
                self.assertEqual(ast.unparse(node.value), "self", place)

    def test_what_is_iterated_at_once_is_not_kept(self):
        views = {"zip", "enumerate", "reversed", "range", "map", "iter", "next", "set", "frozenset"}
        for place, node in all_nodes():
            self.assertNotIsInstance(node, (ast.Yield, ast.YieldFrom, ast.Lambda, ast.Try, ast.With, ast.Match), place)
            if isinstance(node, (ast.Assign, ast.Return)):
                call = node.value
                if isinstance(call, ast.Call) and isinstance(call.func, ast.Name):
                    self.assertNotIn(call.func.id, views, place)
                if isinstance(call, ast.Call) and isinstance(call.func, ast.Attribute):
                    self.assertNotIn(call.func.attr, {"items", "keys", "values"}, place)

    def test_sets_stand_in_len_and_sorted_alone(self):
        for file in FILES:
            tree = tree_of(file)
            fine = [part for node in ast.walk(tree) if isinstance(node, ast.Call) and isinstance(node.func, ast.Name)
                    and node.func.id in ("len", "sorted") for part in node.args]
            for node in ast.walk(tree):
                self.assertNotIsInstance(node, (ast.Set, ast.SetComp), file.name)
                if isinstance(node, ast.Call) and isinstance(node.func, ast.Name) and node.func.id == "set":
                    self.assertIn(node, fine, f"{file.name}:{node.lineno}")

    def test_no_name_hides_a_class_a_function_or_an_import_of_its_file(self):
        for file in FILES:
            tree = tree_of(file)
            fixed = {alias.name for node in tree.body if isinstance(node, ast.ImportFrom) for alias in node.names}
            fixed |= {node.name for node in tree.body if isinstance(node, (ast.ClassDef, ast.FunctionDef))}
            for node in ast.walk(tree):
                if isinstance(node, ast.Name) and isinstance(node.ctx, ast.Store):
                    self.assertNotIn(node.id, fixed, f"{file.name}:{node.lineno}")
                if isinstance(node, ast.arg):
                    self.assertNotIn(node.arg, fixed, f"{file.name}:{node.lineno}")


if __name__ == "__main__":
    unittest.main()
