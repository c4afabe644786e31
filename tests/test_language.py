"""Rules of the language, as far as they are checked by plain means, for every file of the package."""

import ast
import builtins
import pathlib
import re
import unittest

PACKAGE = pathlib.Path(__file__).resolve().parent.parent / "heightgames"
BARRED_WORDS = r"""\b(type|typing|typing_extensions|enum|Enum|IntEnum|StrEnum|Flag|IntFlag|Generic|Protocol|ABC|ABCMeta|
namedtuple|NamedTuple|TypedDict|TYPE_CHECKING|abstractmethod)\b|dataclass|overload|contextmanager""".replace("\n", "")
BARRED_NAMES = """register mro elements open input law version_info with_traceback add_note attrgetter breakpoint builtins compile
copyright credits delattr dir eval exec exit gc getattr globals hasattr help id importlib license locals methodcaller os quit
setattr super type vars sys __name__""".split()
BUILTINS = """len range enumerate zip min max sum abs sorted reversed int str bool list tuple dict set isinstance ord repr any
all divmod iter Exception ValueError TypeError KeyError IndexError LookupError""".split()
METHODS = """append clear copy count endswith extend find get index insert isalnum isalpha isdigit islower isspace isupper items
join keys ljust lower lstrip partition pop remove replace reverse rfind rjust rpartition rsplit rstrip setdefault split
splitlines startswith strip update upper values zfill bit_length add discard isascii""".split()
CHANGING = "append clear extend insert pop remove reverse setdefault update add discard sort".split()
# What has these around it is walked at once; the others have it as their first argument.
WALKERS = "list tuple dict sorted sum any all enumerate zip".split()
FUNCTIONS = (ast.FunctionDef, ast.Lambda)


def named(node):
    return node.id if isinstance(node, ast.Name) else None


def called(node):
    return named(node.func) if isinstance(node, ast.Call) else None


def root(node):
    """The text of what a loop walks or a statement changes, with items taken for what they are items of."""
    while isinstance(node, ast.Subscript):
        node = node.value
    return ast.unparse(node)


def stored_names(function):
    """The parameters and local variables of a function."""
    found = [part.arg for part in ast.walk(function.args) if isinstance(part, ast.arg)]
    found.extend(part.id for part in ast.walk(function) if isinstance(part, ast.Name) and isinstance(part.ctx, ast.Store))
    found.extend(part.arg for part in ast.walk(function) if isinstance(part, ast.arg))
    found.extend(part.name for part in ast.walk(function) if isinstance(part, ast.FunctionDef) and part is not function)
    return set(found)


def same_things(function):
    """The sets of names that a function gives to one and the same value, as assignments tell."""
    sets = []
    for node in ast.walk(function):
        if isinstance(node, ast.Assign):
            pairs = []
            for target in node.targets:
                if isinstance(target, ast.Tuple) and isinstance(node.value, ast.Tuple):
                    pairs.extend(zip(target.elts, node.value.elts))
                else:
                    pairs.append((target, node.value))
            for target, value in pairs:
                choices = [value.body, value.orelse] if isinstance(value, ast.IfExp) else [value]
                for choice in choices:
                    if isinstance(choice, (ast.Name, ast.Attribute)):
                        sets.append({ast.unparse(target), ast.unparse(choice)})
                    if isinstance(choice, ast.Subscript) and not isinstance(choice.slice, ast.Slice):
                        sets.append({ast.unparse(target), ast.unparse(choice)})
    merged = True
    while merged:
        merged = False
        for one in sets:
            for other in sets:
                if one is not other and one & other:
                    one |= other
                    sets.remove(other)
                    merged = True
                    break
            if merged:
                break
    return sets


def walked(head):
    """The values that the head of a loop walks."""
    if isinstance(head, ast.IfExp):
        return walked(head.body) + walked(head.orelse)
    if isinstance(head, ast.BoolOp):
        return [part for value in head.values for part in walked(value)]
    if called(head) in ("enumerate", "zip", "reversed"):
        return [part for value in head.args for part in walked(value)]
    if isinstance(head, ast.Call) and isinstance(head.func, ast.Attribute) and head.func.attr in ("items", "keys", "values"):
        return [head.func.value]
    return [head] if isinstance(head, (ast.Name, ast.Attribute, ast.Subscript)) else []


def changes(body):
    """The texts of what statements change in place."""
    found = []
    for statement in body:
        for node in ast.walk(statement):
            if isinstance(node, ast.Call) and isinstance(node.func, ast.Attribute) and node.func.attr in CHANGING:
                found.append(node.func.value)
            if isinstance(node, (ast.Subscript, ast.Attribute)) and isinstance(node.ctx, (ast.Store, ast.Del)):
                found.append(node.value)
            if isinstance(node, ast.AugAssign):
                found.append(node.target)
    return [ast.unparse(node) for node in found]


def handed(node):
    """The pairs of what an extend, an update, a += or a |= changes, and of a value that it is handed."""
    if isinstance(node, ast.AugAssign) and isinstance(node.op, (ast.Add, ast.BitOr)):
        found = [(node.target, part) for part in walked(node.value)]
    elif isinstance(node, ast.Call) and isinstance(node.func, ast.Attribute) and node.func.attr in ("extend", "update"):
        found = [(node.func.value, part) for value in node.args for part in walked(value)]
    else:
        found = []
    # A slice is a copy.
    return [(target, part) for target, part in found if not (isinstance(part, ast.Subscript) and isinstance(part.slice, ast.Slice))]


def holders(node, same):
    """The texts of a value, of what it is an item of, and of all other names of these."""
    found = set()
    more = {ast.unparse(node)}
    while more - found:
        found |= more
        more = {root(ast.parse(text, mode="eval").body) for text in found}.union(*[one for one in same if one & found])
    return found


class Language(unittest.TestCase):
    def setUp(self):
        self.files = {path: path.read_text() for path in sorted(PACKAGE.glob("*.py"))}
        self.trees = {path: ast.parse(text) for path, text in self.files.items()}

    def functions(self):
        for path, tree in self.trees.items():
            for node in ast.walk(tree):
                if isinstance(node, ast.FunctionDef):
                    yield path, node

    def nodes(self, kind):
        for path, tree in self.trees.items():
            for node in ast.walk(tree):
                if isinstance(node, kind):
                    yield f"{path.name}:{getattr(node, 'lineno', 0)}", node

    def test_files(self):
        for path in PACKAGE.iterdir():
            self.assertTrue(path.suffix == ".py" or path.name == "__pycache__", path)
            self.assertTrue(re.fullmatch("[a-z_0-9]+", path.stem), path)
            self.assertFalse(path.stem != "__init__" and hasattr(builtins, path.stem), path)
        self.assertIn(PACKAGE / "__init__.py", self.files)

    def test_sizes_and_characters(self):
        for path, text in self.files.items():
            self.assertLessEqual(len(text.splitlines()), 399, path)
            self.assertTrue(all(" " <= letter <= "~" or letter == "\n" for letter in text), path)
            self.assertTrue(all(len(line) <= 120 for line in text.splitlines()), path)
            self.assertIsNone(re.search(BARRED_WORDS, text), path)
        for path, function in self.functions():
            self.assertLessEqual(function.end_lineno - function.lineno + 1, 40, function.name)

    def test_imports(self):
        needed = {}
        for path, tree in self.trees.items():
            needed[path.stem] = set()
            for node in ast.walk(tree):
                self.assertNotIsInstance(node, ast.Import, path)
                if isinstance(node, ast.ImportFrom):
                    self.assertIn(node, tree.body)
                    self.assertTrue(node.module.startswith("heightgames."), path)
                    source = node.module.partition(".")[2]
                    needed[path.stem].add(source)
                    own = [getattr(part, "name", None) or named(part.targets[0]) for part in self.trees[PACKAGE / f"{source}.py"].body
                           if isinstance(part, (ast.FunctionDef, ast.ClassDef, ast.Assign))]
                    for name in node.names:
                        self.assertIsNone(name.asname)
                        self.assertIn(name.name, own, path)
                        self.assertGreater(len(re.findall(rf"\b{name.name}\b", self.files[path])), 1, f"{path} {name.name}")
        while needed:
            free = [name for name in needed if not needed[name] & set(needed)]
            self.assertTrue(free, needed)
            needed = {name: needed[name] for name in needed if name not in free}

    def test_statements(self):
        barred = (ast.Global, ast.AsyncFunctionDef, ast.Await, ast.Div, ast.GeneratorExp, ast.Import, ast.TypeAlias
                  if hasattr(ast, "TypeAlias") else ast.Global, ast.Yield, ast.YieldFrom)
        for where, node in self.nodes(ast.AST):
            self.assertNotIsInstance(node, barred, where)
        for where, node in self.nodes(ast.Constant):
            self.assertNotIsInstance(node.value, (float, complex, bytes), where)
            if isinstance(node.value, str):
                self.assertNotIn("%", node.value, where)
                self.assertNotIn("__", node.value, where)
        for where, node in self.nodes(ast.BinOp):
            if isinstance(node.op, ast.Pow):
                self.assertIsInstance(node.right, ast.Constant, where)
        for where, node in self.nodes(ast.Compare):
            for sign, other in zip(node.ops, node.comparators):
                if isinstance(sign, (ast.Is, ast.IsNot)):
                    self.assertTrue(isinstance(other, ast.Constant) and other.value in (None, True, False), where)
        for where, node in self.nodes(ast.FunctionDef):
            for mark in node.decorator_list:
                self.assertEqual(ast.unparse(mark), "property", where)
        for where, node in self.nodes(ast.Raise):
            self.assertTrue(isinstance(node.exc, ast.Call) and isinstance(node.exc.func, ast.Name), where)
        for where, node in self.nodes(ast.ExceptHandler):
            kinds = node.type.elts if isinstance(node.type, ast.Tuple) else [node.type]
            for kind in kinds:
                self.assertFalse(hasattr(builtins, kind.id), where)
        for where, node in self.nodes((ast.ListComp, ast.DictComp, ast.SetComp)):
            self.assertLessEqual(len(node.generators), 6, where)

    def test_names(self):
        for path, tree in self.trees.items():
            bound = []
            for part in tree.body:
                if isinstance(part, (ast.FunctionDef, ast.ClassDef)):
                    bound.append(part.name)
                elif isinstance(part, ast.ImportFrom):
                    bound.extend(name.name for name in part.names)
                elif isinstance(part, ast.Assign):
                    self.assertEqual(len(part.targets), 1, path)
                    bound.append(part.targets[0].id)
                else:
                    self.assertTrue(isinstance(part, ast.Expr) and isinstance(part.value, ast.Constant), path)
            self.assertEqual(len(bound), len(set(bound)), path)
            taken = {part.name for part in tree.body if isinstance(part, ast.ClassDef)}
            taken.update(name.name for part in tree.body if isinstance(part, ast.ImportFrom) for name in part.names)
            for node in ast.walk(tree):
                if isinstance(node, FUNCTIONS):
                    self.assertEqual(stored_names(node) & taken, set(), f"{path} {node.lineno}")
                    for name in stored_names(node):
                        self.assertFalse(hasattr(builtins, name) or name.startswith("_") or name in BARRED_NAMES, f"{path} {name}")
                if isinstance(node, ast.Name) and hasattr(builtins, node.id):
                    self.assertIn(node.id, BUILTINS + ["property"], path)
                if isinstance(node, ast.Name):
                    self.assertNotIn(node.id, BARRED_NAMES, path)

    def test_methods_and_attributes(self):
        methods, attributes, read = set(), set(), set()
        for where, node in self.nodes(ast.ClassDef):
            names = [item.name for item in node.body if isinstance(item, ast.FunctionDef)]
            self.assertEqual(len(names), len(set(names)), where)
            methods.update(names)
        for where, node in self.nodes(ast.Attribute):
            (attributes if isinstance(node.ctx, ast.Store) else read).add(node.attr)
            if isinstance(node.ctx, ast.Store):
                self.assertIsInstance(node.value, ast.Name, where)
        self.assertEqual(methods & attributes, set())
        self.assertEqual({name for name in methods if name in METHODS}, set())
        self.assertEqual({name for name in attributes if name in METHODS and name not in ("count", "index")}, set())
        self.assertEqual(read - methods - attributes - set(METHODS), set())

    def test_calls(self):
        keywords = {"sorted": ["key", "reverse"], "min": ["key", "default"], "max": ["key", "default"], "sum": ["start"],
                    "enumerate": ["start"], "zip": ["strict"]}
        for where, node in self.nodes(ast.Call):
            if isinstance(node.func, ast.Name) and node.func.id in BUILTINS:
                for word in node.keywords:
                    self.assertIn(word.arg, keywords.get(node.func.id, []), where)
                if node.func.id in ("sum", "min", "max", "sorted", "any", "all") and len(node.args) == 1:
                    self.assertNotIsInstance(node.args[0], ast.GeneratorExp, where)
                if node.func.id == "reversed":
                    self.assertIsInstance(node.args[0], (ast.Name, ast.Call), where)
            if isinstance(node.func, ast.Attribute) and node.func.attr in METHODS:
                self.assertEqual(node.keywords, [], where)

    def test_what_is_walked_at_once(self):
        for path, tree in self.trees.items():
            above = {child: node for node in ast.walk(tree) for child in ast.iter_child_nodes(node)}
            for node in ast.walk(tree):
                lazy = called(node) in ("zip", "enumerate", "reversed", "range")
                if isinstance(node, ast.Call) and isinstance(node.func, ast.Attribute):
                    lazy = lazy or node.func.attr in ("items", "keys", "values")
                if lazy:
                    user = above[node]
                    fine = isinstance(user, (ast.For, ast.comprehension)) and user.iter is node
                    fine = fine or (called(user) in WALKERS and user.args[0] is node)
                    self.assertTrue(fine, f"{path} {node.lineno}")

    def test_sets(self):
        for path, function in self.functions():
            above = {child: node for node in ast.walk(function) for child in ast.iter_child_nodes(node)}
            for node in ast.walk(function):
                if called(node) == "set" or isinstance(node, (ast.Set, ast.SetComp)):
                    user = above[node]
                    if isinstance(user, ast.Assign):
                        name = user.targets[0].id
                        stores = [part for part in ast.walk(function) if named(part) == name and isinstance(part.ctx, ast.Store)]
                        self.assertEqual(len(stores), 1, f"{path} {node.lineno}")
                        for part in ast.walk(function):
                            if named(part) == name and isinstance(part.ctx, ast.Load):
                                use = above[part]
                                fine = isinstance(use, ast.Compare) and part in use.comparators
                                fine = fine or (isinstance(use, ast.Attribute) and use.attr in ("add", "discard"))
                                fine = fine or called(use) in ("len", "sorted")
                                self.assertTrue(fine, f"{path} {part.lineno}")
                    else:
                        fine = called(user) in ("len", "sorted") and not user.keywords
                        fine = fine or (isinstance(user, ast.Compare) and node in user.comparators)
                        self.assertTrue(fine, f"{path} {node.lineno}")

    def test_what_a_loop_walks_is_not_changed_in_it(self):
        for path, function in self.functions():
            same = same_things(function)
            for node in ast.walk(function):
                if isinstance(node, ast.For):
                    for part in walked(node.iter):
                        text = ast.unparse(part)
                        names = {text}.union(*[one for one in same if text in one])
                        for changed in changes(node.body):
                            self.assertNotIn(changed, names, f"{path} {node.lineno}")

    def test_what_is_handed_is_not_what_it_changes(self):
        for path, function in self.functions():
            same = same_things(function)
            for node in ast.walk(function):
                for target, part in handed(node):
                    self.assertEqual(holders(target, same) & holders(part, same), set(), f"{path} {node.lineno}")

    def test_what_is_handed_is_seen_by_other_names(self):
        barred = ["bits = near[node]; bits |= near[goal]", "xs.extend(xs)", "ys = xs; xs += ys", "ys = xs; ys.update(xs)",
                  "xs.extend(enumerate(xs))", "rows = box.rows; one = rows[0]; one += box.rows[1]", "xs += ys if k else xs"]
        allowed = ["bits = near[node]; bits = bits | near[goal]", "xs.extend(list(xs))", "xs += xs[1:]", "xs.extend(ys)",
                   "at = xs[0]; at += 1", "bits = near[node]; bits &= near[goal]"]
        for text in barred + allowed:
            tree = ast.parse(text)
            same = same_things(tree)
            met = [1 for node in ast.walk(tree) for target, part in handed(node) if holders(target, same) & holders(part, same)]
            self.assertEqual(len(met), 1 if text in barred else 0, text)

    def test_double_underscore_methods(self):
        for where, node in self.nodes(ast.FunctionDef):
            if node.name == "__init__":
                for part in ast.walk(node):
                    self.assertNotIsInstance(part, ast.Return, where)
            elif node.name == "__iter__":
                self.assertEqual(len(node.body), 1, where)
                self.assertTrue(re.fullmatch(r"return iter\(self\.\w+\)", ast.unparse(node.body[0])), where)
            elif node.name.startswith("__"):
                self.assertIn(node.name, ("__eq__", "__len__", "__contains__"), where)
                self.assertEqual(changes(node.body), [], where)


if __name__ == "__main__":
    unittest.main()
