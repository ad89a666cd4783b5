"""The rules of the language document, as far as a test can see them."""

import ast
import builtins
import pathlib
import re
import unittest
import warnings

PACKAGE = pathlib.Path(__file__).resolve().parent.parent / "talepost"
FILES = sorted(PACKAGE.glob("*.py"))

BUILTINS = set("""len range enumerate zip min max sum abs sorted reversed int str bool bytes list tuple dict set
frozenset isinstance ord repr any all divmod Exception ValueError TypeError KeyError IndexError LookupError
ZeroDivisionError ArithmeticError OverflowError RuntimeError NotImplementedError AttributeError StopIteration
NotImplemented property classmethod staticmethod super iter next map""".split())
METHODS = set("""append clear copy count endswith extend find get index insert isalnum isalpha isdigit islower isspace
isupper items join keys ljust lower lstrip partition pop remove replace reverse rfind rjust rpartition rsplit rstrip
setdefault split splitlines startswith strip update upper values zfill bit_length""".split())
CHANGING = set("append clear extend insert pop remove reverse setdefault update sort add discard".split())
LIBRARY = {"heapq": {"heappush", "heappop", "heapify", "heapreplace", "heappushpop"},
           "math": {"gcd", "lcm", "isqrt", "comb", "perm", "factorial"},
           "itertools": {"product", "combinations", "permutations"}}
DUNDERS = set("""__init__ __eq__ __repr__ __str__ __len__ __enter__ __exit__ __call__ __iter__ __lt__ __le__ __gt__ __ge__
__ne__ __add__ __sub__ __mul__ __floordiv__ __mod__ __pow__ __and__ __or__ __xor__ __lshift__ __rshift__ __iadd__ __neg__
__pos__ __invert__ __abs__ __bool__ __contains__ __getitem__ __setitem__""".split())
UNUSED = set("""register mro elements open input law version_info with_traceback add_note""".split())
UNUSED_NAMES = set("""attrgetter breakpoint builtins compile copyright credits delattr dir eval exec exit gc getattr globals
hasattr help id importlib license locals methodcaller os quit setattr super type vars sys""".split())
WORDS = re.compile(r"\b(type|typing|typing_extensions|enum|Enum|IntEnum|StrEnum|Flag|IntFlag|Generic|Protocol|ABC|ABCMeta|"
                   r"namedtuple|NamedTuple|TypedDict|TYPE_CHECKING|abstractmethod|chr|global|async|lambda)\b")
ATTRIBUTES_NOT = set("""items keys values pop update append clear extend insert remove reverse setdefault sort args encode
decode hex fromhex format format_map mro""".split())
STATEMENTS = (ast.Assign, ast.If, ast.While, ast.For, ast.Return, ast.Break, ast.Continue, ast.Pass, ast.Raise, ast.Assert,
              ast.Delete, ast.Try, ast.Expr, ast.FunctionDef, ast.ClassDef, ast.ImportFrom, ast.AugAssign)
ITERATED = {"zip", "enumerate", "reversed", "items", "keys", "values"}
TAKING = {"list", "tuple", "dict", "sorted", "sum", "any", "all", "enumerate", "zip", "min", "max"}


def parents_of(tree):
    above = {}
    for node in ast.walk(tree):
        for child in ast.iter_child_nodes(node):
            above[child] = node
    return above


class Source:
    def __init__(self, path):
        self.path = path
        self.name = path.stem
        self.text = path.read_text(encoding="utf-8")
        with warnings.catch_warnings():
            warnings.simplefilter("error")
            self.tree = ast.parse(self.text)
            compile(self.text, str(path), "exec")
        self.nodes = list(ast.walk(self.tree))
        self.above = parents_of(self.tree)
        self.functions = [node for node in self.nodes if isinstance(node, ast.FunctionDef)]
        self.classes = [node for node in self.nodes if isinstance(node, ast.ClassDef)]

    def without_docstrings(self):
        return [node for node in self.nodes if isinstance(node, ast.Constant) and isinstance(node.value, str)
                and not isinstance(self.above[node], ast.Expr)]


SOURCES = [Source(path) for path in FILES]
OWN_METHODS = {item.name for source in SOURCES for node in source.classes for item in node.body
               if isinstance(item, ast.FunctionDef)}
ATTRIBUTES = {inner.attr for source in SOURCES for inner in source.nodes
              if isinstance(inner, ast.Attribute) and isinstance(inner.ctx, ast.Store)}
# Methods that may change their object; all others with two underscores are operators.
MAY_CHANGE = {"__init__", "__call__", "__iadd__", "__setitem__"}
GENERATORS = {node.name for source in SOURCES for node in source.functions
              if any(isinstance(inner, (ast.Yield, ast.YieldFrom)) for inner in ast.walk(node))}


def root_of(node):
    while isinstance(node, (ast.Subscript, ast.Attribute)):
        node = node.value
    return node


def locals_of(function):
    names = {arg.arg for arg in function.args.args + function.args.kwonlyargs}
    for star in (function.args.vararg, function.args.kwarg):
        if star:
            names.add(star.arg)
    for node in ast.walk(function):
        if isinstance(node, ast.Name) and isinstance(node.ctx, (ast.Store, ast.Del)):
            names.add(node.id)
    return names


class LanguageTest(unittest.TestCase):
    def each(self, check):
        for source in SOURCES:
            with self.subTest(file=source.name):
                check(source)

    def at(self, source, node, rule):
        return f"{rule}: {source.path.name}:{getattr(node, 'lineno', '?')}"

    def test_l1_l14_files(self):
        names = {path.name for path in PACKAGE.iterdir() if path.name != "__pycache__"}
        self.assertEqual(names, {path.name for path in FILES})
        self.assertLessEqual(len(FILES), 100)
        for path in FILES:
            self.assertRegex(path.name, r"^[a-z_][a-z0-9_]*\.py$")
            self.assertNotIn(path.stem, set(dir(builtins)) | {"test", "tests", "testing", "site", "conftest"})
            for character in path.read_bytes():
                self.assertTrue(character == 10 or 32 <= character <= 126, path.name)

    def test_l2_l16_imports(self):
        defined = {source.name: {node.name for node in source.tree.body
                                 if isinstance(node, (ast.FunctionDef, ast.ClassDef))}
                   | {target.id for node in source.tree.body if isinstance(node, ast.Assign) for target in node.targets}
                   for source in SOURCES}
        needs = {}
        for source in SOURCES:
            self.assertFalse([node for node in source.nodes if isinstance(node, ast.Import)], source.name)
            needs[source.name] = set()
            bound = []
            for node in source.tree.body:
                if isinstance(node, ast.ImportFrom):
                    self.assertEqual(node.level, 0)
                    bound += [alias.name for alias in node.names]
                    self.assertFalse(any(alias.asname for alias in node.names))
                    if node.module in LIBRARY:
                        self.assertLessEqual({alias.name for alias in node.names}, LIBRARY[node.module])
                        continue
                    package, _, module = node.module.partition(".")
                    self.assertEqual(package, "talepost")
                    needs[source.name].add(module)
                    for alias in node.names:
                        self.assertIn(alias.name, defined[module], self.at(source, node, "L16"))
            bound += list(defined[source.name])
            self.assertEqual(len(bound), len(set(bound)), source.name)
            used = {node.id for node in source.nodes if isinstance(node, ast.Name)}
            for node in source.tree.body:
                if isinstance(node, ast.ImportFrom):
                    for alias in node.names:
                        self.assertIn(alias.name, used, self.at(source, node, "unused import"))
        done = set()
        while len(done) < len(needs):
            ready = [name for name in needs if name not in done and needs[name] <= done]
            self.assertTrue(ready, f"L16: circle among {set(needs) - done}")
            done.update(ready)

    def test_l3_module_level(self):
        def check(source):
            for at, node in enumerate(source.tree.body):
                if isinstance(node, ast.Expr):
                    self.assertTrue(at == 0 and isinstance(node.value, ast.Constant), self.at(source, node, "L3"))
                elif isinstance(node, ast.Assign):
                    self.assertEqual(len(node.targets), 1)
                    ast.literal_eval(node.value)
                else:
                    self.assertIsInstance(node, (ast.ImportFrom, ast.FunctionDef, ast.ClassDef))
        self.each(check)

    def test_l4_functions(self):
        def check(source):
            for node in source.functions:
                for mark in node.decorator_list:
                    self.assertIsInstance(source.above[node], ast.ClassDef)
                    plain = isinstance(mark, ast.Name) and mark.id in {"property", "classmethod", "staticmethod"}
                    self.assertTrue(plain or isinstance(mark, ast.Attribute) and mark.attr == "setter")
                for value in node.args.defaults + [each for each in node.args.kw_defaults if each]:
                    self.assertIsInstance(value, (ast.Constant, ast.Name, ast.UnaryOp), self.at(source, node, "L4"))
                self.assertIsInstance(source.above[node], (ast.ClassDef, ast.Module))
                self.assertIsNone(node.returns)
                self.assertFalse(any(arg.annotation for arg in node.args.args + node.args.kwonlyargs))
        self.each(check)

    def test_l5_classes(self):
        def check(source):
            for node in source.classes:
                self.assertFalse(node.decorator_list)
                methods = [item.name for item in node.body if isinstance(item, ast.FunctionDef)
                           and not any(isinstance(mark, ast.Attribute) for mark in item.decorator_list)]
                self.assertEqual(len(methods), len(set(methods)))
                for name in methods:
                    if name.startswith("__"):
                        self.assertIn(name, DUNDERS)
                if "__getitem__" in methods:
                    self.assertIn("__iter__", methods)
                attributes = {inner.attr for inner in ast.walk(node) if isinstance(inner, ast.Attribute)
                              and isinstance(inner.ctx, ast.Store)}
                self.assertFalse(attributes & set(methods), self.at(source, node, "L18"))
                self.assertFalse(attributes & ATTRIBUTES_NOT, self.at(source, node, "L26"))
        self.each(check)

    def test_l6_statements(self):
        def check(source):
            for node in source.nodes:
                if isinstance(node, ast.stmt):
                    self.assertIsInstance(node, STATEMENTS, self.at(source, node, "L6"))
                if isinstance(node, ast.Expr):
                    value = node.value
                    docstring = isinstance(value, ast.Constant) and isinstance(value.value, str)
                    self.assertTrue(docstring or isinstance(value, (ast.Call, ast.Yield, ast.YieldFrom)))
                if isinstance(node, ast.ExceptHandler):
                    self.assertIsNotNone(node.type)
        self.each(check)

    def test_l7_l24_expressions(self):
        def check(source):
            for node in source.nodes:
                self.assertNotIsInstance(node, (ast.GeneratorExp, ast.Lambda, ast.NamedExpr, ast.Div, ast.Await, ast.Set),
                                         self.at(source, node, "L7"))
                if isinstance(node, ast.Constant):
                    self.assertIsInstance(node.value, (int, str, type(None)), self.at(source, node, "L7"))
                is_set = isinstance(node, ast.SetComp) or (
                    isinstance(node, ast.Call) and isinstance(node.func, ast.Name) and node.func.id == "set")
                if is_set:
                    above = source.above[node]
                    taken = isinstance(above, ast.Call) and isinstance(above.func, ast.Name) \
                        and above.func.id in {"sorted", "len"} and not above.keywords
                    self.assertTrue(taken, self.at(source, node, "L24"))
        self.each(check)

    def test_l8_builtins(self):
        def check(source):
            for node in source.nodes:
                if isinstance(node, ast.Name) and node.id in dir(builtins):
                    self.assertIsInstance(node.ctx, ast.Load, self.at(source, node, "L15"))
                    self.assertIn(node.id, BUILTINS, self.at(source, node, "L8"))
        self.each(check)

    def test_l10_size(self):
        def check(source):
            lines = source.text.split("\n")
            self.assertLessEqual(len(lines) - 1, 399)
            self.assertTrue(source.text.endswith("\n"))
            self.assertLessEqual(max(len(line) for line in lines), 120)
            for node in source.functions:
                self.assertLessEqual(node.end_lineno - node.lineno + 1, 40, self.at(source, node, "L10"))
        self.each(check)

    def test_l12_l15_l17_names(self):
        def check(source):
            bound = {alias.name for node in source.tree.body if isinstance(node, ast.ImportFrom) for alias in node.names}
            bound |= {node.name for node in source.classes}
            for node in source.functions:
                names = locals_of(node)
                self.assertFalse(names & bound, self.at(source, node, "L15"))
                self.assertFalse(names & set(dir(builtins)), self.at(source, node, "L15"))
                self.assertFalse(names & (UNUSED | UNUSED_NAMES), self.at(source, node, "L17"))
                self.assertNotIn(node.name, UNUSED | UNUSED_NAMES)
                if not isinstance(source.above[node], ast.ClassDef):
                    self.assertNotIn(node.name, dir(builtins))
                for name in names | {node.name}:
                    self.assertRegex(name, r"^(_|_?[A-Za-z][A-Za-z0-9_]*|__[a-z]+__)$")
            for node in source.nodes:
                if isinstance(node, ast.Attribute):
                    self.assertNotIn(node.attr, UNUSED)
                if isinstance(node, ast.Name) and node.id == "_":
                    self.assertIsInstance(node.ctx, ast.Store)
        self.each(check)

    def test_l17_words(self):
        def check(source):
            for node in source.without_docstrings():
                self.assertIsNone(WORDS.search(node.value), self.at(source, node, "L17"))
            for node in source.nodes:
                if isinstance(node, ast.Name):
                    self.assertIsNone(WORDS.search(node.id), self.at(source, node, "L17"))
            for word in ("dataclass", "overload", "contextmanager", "(type)", "Meta", "metaclass=", "_wall"):
                self.assertNotIn(word, source.text)
        self.each(check)

    def test_l19_errors(self):
        def check(source):
            errors = {node.name for node in SOURCES[[each.name for each in SOURCES].index("errors")].classes}
            for node in source.nodes:
                if isinstance(node, ast.ExceptHandler):
                    self.assertIn(node.type.id, errors, self.at(source, node, "L19"))
                if isinstance(node, ast.Try):
                    self.assertFalse(node.finalbody, self.at(source, node, "L6"))
                if isinstance(node, ast.Raise):
                    self.assertIsInstance(node.exc, ast.Call, self.at(source, node, "L19"))
                    self.assertIn(node.exc.func.id, errors | {"TypeError"}, self.at(source, node, "L19"))
        self.each(check)

    def test_l20_is(self):
        def check(source):
            for node in source.nodes:
                if isinstance(node, ast.Compare):
                    for kind, right in zip(node.ops, node.comparators):
                        if isinstance(kind, (ast.Is, ast.IsNot)):
                            self.assertTrue(isinstance(right, ast.Constant) and right.value in (None, True, False))
        self.each(check)

    def test_l22_l25_calls(self):
        keywords = {"sorted": {"key", "reverse"}, "min": {"key", "default"}, "max": {"key", "default"},
                    "sum": {"start"}, "enumerate": {"start"}, "zip": {"strict"}}

        def check(source):
            for node in source.nodes:
                if not isinstance(node, ast.Call):
                    continue
                if isinstance(node.func, ast.Name) and node.func.id in dir(builtins):
                    named = {word.arg for word in node.keywords}
                    self.assertLessEqual(named, keywords.get(node.func.id, set()), self.at(source, node, "L22"))
                    self.assertFalse(any(isinstance(arg, ast.Starred) for arg in node.args))
                if isinstance(node.func, ast.Attribute):
                    self.assertIn(node.func.attr, METHODS | OWN_METHODS, self.at(source, node, "L25"))
        self.each(check)

    def test_l23_iterated_at_once(self):
        def check(source):
            for node in source.nodes:
                if not isinstance(node, ast.Call):
                    continue
                name = node.func.id if isinstance(node.func, ast.Name) else getattr(node.func, "attr", "")
                if name not in ITERATED | {"range"} | GENERATORS:
                    continue
                above = source.above[node]
                fits = (isinstance(above, (ast.For, ast.comprehension)) and above.iter is node) \
                    or isinstance(above, ast.YieldFrom) \
                    or (isinstance(above, ast.Call) and isinstance(above.func, ast.Name) and above.func.id in TAKING)
                self.assertTrue(fits, self.at(source, node, "L23"))
            for node in source.nodes:
                if isinstance(node, ast.For):
                    looped = {inner.id for inner in ast.walk(node.iter) if isinstance(inner, ast.Name)}
                    for inner in [each for row in node.body for each in ast.walk(row)]:
                        changed = changed_root(inner)
                        self.assertNotIn(changed, looped, self.at(source, inner, "L23"))
            names = [inner.name for each in SOURCES for inner in each.functions]
            for name in GENERATORS:
                self.assertEqual(names.count(name), 1, name)
        self.each(check)

    def test_l18_names_of_methods_and_attributes(self):
        # The document has an attribute `limit` of an error, and properties of this name.
        plain = {"limit"}
        for source in SOURCES:
            for node in source.functions:
                marked = bool(node.decorator_list) or node.name in GENERATORS
                if marked and isinstance(source.above[node], ast.ClassDef):
                    self.assertNotIn(node.name, ATTRIBUTES - plain, self.at(source, node, "L18"))

    def test_l5_no_adding_in_place(self):
        def check(source):
            for node in source.nodes:
                self.assertNotIsInstance(node, ast.AugAssign, self.at(source, node, "L5"))
        self.each(check)

    def test_l26_own_methods(self):
        held = {name for kind in (str, int, list, dict, set, bytes) for name in dir(kind)}
        # The document lists a method `union` of a lot.
        free = METHODS | {"add", "discard", "union"}
        for source in SOURCES:
            for node in source.classes:
                for item in node.body:
                    if isinstance(item, ast.FunctionDef) and not item.name.startswith("__"):
                        self.assertFalse(item.name in held and item.name not in free, self.at(source, item, "L26"))

    def test_l27_strings(self):
        def check(source):
            for node in source.nodes:
                if isinstance(node, ast.Constant) and isinstance(node.value, str):
                    self.assertNotIn("%", node.value, self.at(source, node, "L27"))
                    self.assertFalse(node.value.endswith(("._", ".__")))
                    self.assertFalse(node.value.startswith("__") and node.value.endswith("__"))
                if isinstance(node, ast.BinOp) and isinstance(node.op, ast.Pow):
                    self.assertIsInstance(node.right, ast.Constant)
            for escape in re.findall(r"\\(.)", source.text):
                self.assertIn(escape, "nt\\'\"", self.at(source, source.tree, "L27"))
        self.each(check)

    def test_l28_double_underscore_methods(self):
        def check(source):
            for node in source.functions:
                returns = [inner for inner in ast.walk(node) if isinstance(inner, ast.Return)]
                if node.name == "__init__":
                    self.assertFalse(returns)
                if node.name == "__len__":
                    self.assertTrue(all(isinstance(inner.value, ast.Call) and inner.value.func.id == "len"
                                        for inner in returns))
                if node.name in {"__eq__", "__len__", "__str__"}:
                    self.assertIsInstance(node.body[-1], ast.Return)
        self.each(check)

    def test_l5_operators_change_nothing(self):
        for node, source in reached_by_operators().items():
            with self.subTest(file=source.name, function=node.name):
                self.check_changes_nothing(source, node)

    def check_changes_nothing(self, source, function):
        made = made_in(function)
        for node in ast.walk(function):
            self.assertNotIsInstance(node, ast.AugAssign, self.at(source, node, "L5"))
            if isinstance(node, ast.Call) and isinstance(node.func, ast.Name):
                self.assertNotIn(node.func.id, locals_of(function), self.at(source, node, "L5"))
            if isinstance(node, ast.Call) and isinstance(node.func, ast.Attribute):
                self.assertNotIn(node.func.attr, ATTRIBUTES, self.at(source, node, "L5, L18"))
            for changed in changed_things(node):
                fresh = isinstance(changed, ast.Name) and changed.id in made
                self.assertTrue(fresh or sets_own_attribute(function, node), self.at(source, node, "L5"))

    def test_l5_the_check_sees_what_is_held(self):
        held = ["before[to].append(place)", "del members[number][place]", "members[-1][place] = True", "xs.append(1)",
                "groups[mark].extend(part)", "row.append(1)", "net.append(1)", "self.rows.append(1)", "self.rows = []",
                "shared[0] = 1", "del one[0]", "part.clear()"]
        for changing in held:
            written = f"""def found(net, *xs):
    before, members, groups = [[]], [{{}}], {{}}
    shared = net
    row = []
    one, other = [], []
    both = [row for row in net]
    for part in net:
        part = []
        {changing}"""
            function = ast.parse(written).body[0]
            seen = [changed for node in ast.walk(function) for changed in changed_things(node)]
            self.assertEqual(len(seen), 1, changing)
            self.assertFalse(isinstance(seen[0], ast.Name) and seen[0].id in made_in(function), changing)
        function = ast.parse("def made(net):\n    xs = list(net)\n    xs[0] = 1\n    xs.pop()\n    del xs[1]").body[0]
        self.assertEqual([changed.id for node in ast.walk(function) for changed in changed_things(node)], ["xs"] * 3)
        self.assertEqual(made_in(function), {"xs"})


def reached_by_operators():
    """The functions that operators and properties run, with the files in which they stand."""
    reached, queue = {}, []
    for source in SOURCES:
        for node in source.functions:
            marked = any(isinstance(mark, ast.Name) and mark.id == "property" for mark in node.decorator_list)
            if marked or (node.name.startswith("__") and node.name not in MAY_CHANGE):
                queue.append((source, node))
    while queue:
        source, node = queue.pop()
        if node not in reached:
            reached[node] = source
            for inner in ast.walk(node):
                if isinstance(inner, ast.Call):
                    queue.extend(called(source, node, inner))
    return reached


def made_in(function):
    """The plain local names that are only given lists and dicts that the function makes."""
    made = set()
    other = {arg.arg for arg in function.args.args + function.args.kwonlyargs}
    other |= {star.arg for star in (function.args.vararg, function.args.kwarg) if star}
    for node in ast.walk(function):
        targets = []
        if isinstance(node, ast.Assign):
            for target in node.targets:
                if isinstance(target, ast.Name) and is_fresh(node.value):
                    made.add(target.id)
                else:
                    targets.append(target)
        elif isinstance(node, (ast.For, ast.comprehension)):
            targets.append(node.target)
        for target in targets:
            other |= {part.id for part in ast.walk(target) if isinstance(part, ast.Name) and isinstance(part.ctx, ast.Store)}
    return made - other


def is_fresh(value):
    """Whether the value is a list or a dict that is made here."""
    if isinstance(value, ast.Call):
        return isinstance(value.func, ast.Name) and value.func.id in {"list", "dict", "sorted"}
    return isinstance(value, (ast.List, ast.Dict, ast.ListComp))


def changed_things(node):
    """What a piece of code changes in place: the names, attributes or items that stand for it."""
    if isinstance(node, (ast.Assign, ast.Delete)):
        flat = [part for target in node.targets for part in ast.walk(target)]
        return [part.value for part in flat if isinstance(part, (ast.Subscript, ast.Attribute))
                and not isinstance(part.ctx, ast.Load)]
    if isinstance(node, ast.Call) and isinstance(node.func, ast.Attribute) and node.func.attr in CHANGING:
        return [node.func.value]
    return []


def sets_own_attribute(function, node):
    """Whether an `__init__` sets attributes of its object."""
    if function.name != "__init__" or not isinstance(node, ast.Assign):
        return False
    targets = [part for target in node.targets for part in (target.elts if isinstance(target, ast.Tuple) else [target])]
    return all(isinstance(target, ast.Attribute) and isinstance(target.value, ast.Name) and target.value.id == "self"
               for target in targets)


def called(source, function, call):
    """The functions and methods that the call may run: of all classes, unless it is clear which one is meant."""
    name = call.func.id if isinstance(call.func, ast.Name) else getattr(call.func, "attr", "")
    if name == "__init__":
        yield from makers(bases_of(source.above[function]))
        return
    for each in SOURCES:
        for node in each.functions:
            in_class = isinstance(each.above[node], ast.ClassDef)
            if node.name == name and in_class == isinstance(call.func, ast.Attribute):
                yield each, node
    yield from makers([name])


def bases_of(written_class):
    return [base.id for base in written_class.bases if isinstance(base, ast.Name)]


def makers(names):
    """The `__init__` of the classes of these names, or that of their base classes."""
    for source in SOURCES:
        for node in source.classes:
            if node.name in names:
                own = [item for item in node.body if isinstance(item, ast.FunctionDef) and item.name == "__init__"]
                if own:
                    yield source, own[0]
                else:
                    yield from makers(bases_of(node))


def changed_root(node):
    """The name of what a piece of code changes in place, or None."""
    targets = []
    if isinstance(node, (ast.Assign, ast.Delete)):
        targets = [target for target in node.targets if isinstance(target, (ast.Subscript, ast.Attribute))]
    elif isinstance(node, ast.Call) and isinstance(node.func, ast.Attribute) and node.func.attr in CHANGING:
        targets = [node.func]
    for target in targets:
        root = root_of(target)
        return root.id if isinstance(root, ast.Name) else "?"
    return None


if __name__ == "__main__":
    unittest.main()
