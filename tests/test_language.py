"""The files of the package keep to the small subset of Python that the project uses."""

import ast
import builtins
import pathlib
import re
import unittest

PACKAGE = pathlib.Path(__file__).resolve().parent.parent / "firmvalues"
FILES = sorted(PACKAGE.rglob("*.py"))

BUILTINS = """len range enumerate zip min max sum abs sorted reversed int str bool list tuple dict set isinstance ord repr
any all divmod iter ValueError KeyError NotImplemented property staticmethod super""".split()
METHODS = """append clear copy count endswith extend find get index insert isalnum isalpha isdigit islower isspace isupper
items join keys ljust lower lstrip partition pop remove replace reverse rfind rjust rpartition rsplit rstrip setdefault
split splitlines startswith strip update upper values zfill bit_length""".split()
LAZY = ("range", "zip", "enumerate", "reversed")
VIEWS = ("items", "keys", "values")
TAKERS = ("list", "tuple", "dict", "sorted", "sum", "any", "all", "enumerate", "zip", "min", "max", "reversed")
MODIFYING = ("append", "clear", "extend", "insert", "pop", "remove", "reverse", "setdefault", "update")
DOUBLE = ("__init__", "__eq__", "__len__", "__iter__", "__contains__")
BARRED = re.compile(r"dataclass|overload|contextmanager|_wall|\b(type|typing|enum|Enum|namedtuple|Generic|Protocol|ABC)\b")


def parents_in(tree):
    return {child: node for node in ast.walk(tree) for child in ast.iter_child_nodes(node)}


def own_methods():
    found = set()
    for path in FILES:
        for node in ast.walk(ast.parse(path.read_text())):
            if isinstance(node, ast.ClassDef):
                found |= {part.name for part in node.body if isinstance(part, ast.FunctionDef)}
    return found


def properties():
    found = set()
    for path in FILES:
        for node in ast.walk(ast.parse(path.read_text())):
            if isinstance(node, ast.FunctionDef) and "property" in [ast.unparse(part) for part in node.decorator_list]:
                found.add(node.name)
    return found


def generators():
    found = set()
    for path in FILES:
        for node in ast.walk(ast.parse(path.read_text())):
            if isinstance(node, ast.FunctionDef):
                if any(isinstance(part, (ast.Yield, ast.YieldFrom)) for part in ast.walk(node)):
                    found.add(node.name)
    return found


def called_name(node):
    if not isinstance(node, ast.Call):
        return None
    if isinstance(node.func, ast.Name):
        return node.func.id
    return node.func.attr if isinstance(node.func, ast.Attribute) else None


def bare(node):
    """A name or an attribute without the indexes behind it, as a text."""
    while isinstance(node, (ast.Subscript, ast.Starred)):
        node = node.value
    return ast.unparse(node)


def gets_what_it_changes(node):
    """True for `xs[k] += xs[j]`, `xs.extend(xs[1:])` and the like."""
    if isinstance(node, ast.AugAssign) and isinstance(node.op, (ast.Add, ast.BitOr)):
        changed, given = node.target, [node.value]
    elif called_name(node) in ("extend", "update") and isinstance(node.func, ast.Attribute):
        changed, given = node.func.value, node.args
    else:
        return False
    parts = [part for thing in given for part in ast.walk(thing) if isinstance(part, (ast.Name, ast.Attribute))]
    return bare(changed) in [bare(part) for part in parts]


def changed_parts(node):
    """The names and attributes that a statement or a call changes in place, as texts without their indexes."""
    if isinstance(node, ast.Call) and isinstance(node.func, ast.Attribute) and node.func.attr in MODIFYING:
        return [bare(node.func.value)]
    targets = getattr(node, "targets", []) + ([node.target] if isinstance(node, ast.AugAssign) else [])
    while any(isinstance(part, (ast.Tuple, ast.List)) for part in targets):
        targets = [part for target in targets for part in getattr(target, "elts", [target])]
    return [bare(part) for part in targets if isinstance(part, ast.Subscript)]


def changes_what_it_iterates(node):
    """True for a loop in which something that its head reads is changed in place, by whatever index."""
    parts = {bare(part) for part in ast.walk(node.iter) if isinstance(part, (ast.Name, ast.Attribute))}
    return any(part in parts for row in node.body for inner in ast.walk(row) for part in changed_parts(inner))


class TestFiles(unittest.TestCase):
    def each(self):
        for path in FILES:
            text = path.read_text(encoding="utf-8")
            with self.subTest(file=path.name):
                yield path, text, ast.parse(text)

    def test_only_python_files_stand_in_the_package(self):
        others = [path for path in PACKAGE.iterdir() if path.suffix != ".py" and path.name != "__pycache__"]
        self.assertEqual(others, [])

    def test_size_and_characters(self):
        for path, text, tree in self.each():
            lines = text.splitlines()
            self.assertLessEqual(len(lines), 399)
            self.assertLessEqual(max(len(line) for line in lines), 120)
            self.assertTrue(all(sign == "\n" or " " <= sign <= "~" for sign in text))
            for node in ast.walk(tree):
                if isinstance(node, ast.FunctionDef):
                    self.assertLessEqual(node.end_lineno - node.lineno + 1, 40, node.name)

    def test_words_and_strings(self):
        for path, text, tree in self.each():
            self.assertNotRegex(text, BARRED)
            for node in ast.walk(tree):
                if isinstance(node, ast.Constant) and isinstance(node.value, str):
                    self.assertNotIn("%", node.value)
                    self.assertFalse(node.value.endswith(("._", ".__")))
                if isinstance(node, ast.Constant):
                    self.assertNotIsInstance(node.value, (float, complex))

    def test_imports_name_the_defining_file_and_form_no_ring(self):
        needs = {}
        for path, text, tree in self.each():
            needs[path.stem] = []
            for node in tree.body:
                if isinstance(node, ast.ImportFrom):
                    package, name = node.module.split(".")
                    self.assertEqual((package, node.level), ("firmvalues", 0))
                    other = ast.parse((PACKAGE / (name + ".py")).read_text())
                    defined = {part.name for part in other.body if isinstance(part, (ast.FunctionDef, ast.ClassDef))}
                    defined |= {part.targets[0].id for part in other.body if isinstance(part, ast.Assign)}
                    for alias in node.names:
                        self.assertIn(alias.name, defined)
                        self.assertIsNone(alias.asname)
                        uses = [at for at in ast.walk(tree) if isinstance(at, ast.Name) and at.id == alias.name]
                        self.assertTrue(uses, alias.name + " is not used")
                    needs[path.stem].append(name)
        self.assertFalse(any(isinstance(node, ast.Import) for path, text, tree in self.each() for node in tree.body))
        while needs:
            free = [name for name in needs if not any(other in needs for other in needs[name])]
            self.assertTrue(free, needs)
            for name in free:
                del needs[name]

    def test_statements_and_expressions(self):
        barred = (ast.Global, ast.AsyncFunctionDef, ast.Await, ast.Div, ast.GeneratorExp, ast.NamedExpr, ast.SetComp,
                  ast.Set, ast.Lambda, ast.Match, ast.With, ast.Nonlocal, ast.AnnAssign)
        for path, text, tree in self.each():
            for node in ast.walk(tree):
                self.assertNotIsInstance(node, barred)
                if isinstance(node, ast.Compare):
                    for sign, right in zip(node.ops, node.comparators):
                        if isinstance(sign, (ast.Is, ast.IsNot)):
                            self.assertIsInstance(right, ast.Constant)
                if isinstance(node, (ast.FunctionDef, ast.ClassDef)) and node.name.startswith("__"):
                    self.assertIn(node.name, DOUBLE)
                if isinstance(node, ast.FunctionDef) and node.name in DOUBLE[1:]:
                    self.assertIsInstance(node.body[-1], ast.Return)
                    self.assertEqual(len(node.body), 1)
                if isinstance(node, ast.ClassDef):
                    self.assertTrue(node.name[0].isalpha())
                    self.assertEqual(node.decorator_list, [])
                if isinstance(node, ast.FunctionDef):
                    for part in node.decorator_list:
                        self.assertIn(part.id, ("property", "staticmethod"))

    def test_module_level_holds_plain_things(self):
        kinds = (ast.ImportFrom, ast.FunctionDef, ast.ClassDef, ast.Assign)
        for path, text, tree in self.each():
            names = []
            for at, node in enumerate(tree.body):
                if at == 0:
                    self.assertIsNotNone(ast.get_docstring(tree))
                    continue
                self.assertIsInstance(node, kinds)
                if isinstance(node, (ast.FunctionDef, ast.ClassDef)):
                    names.append(node.name)
                elif isinstance(node, ast.Assign):
                    if isinstance(node.value, ast.Dict):
                        for key, thing in zip(node.value.keys, node.value.values):
                            ast.literal_eval(key)
                            if isinstance(thing, ast.Name):
                                self.assertIn(thing.id, names)
                            else:
                                ast.literal_eval(thing)
                    else:
                        ast.literal_eval(node.value)
                    names.append(node.targets[0].id)
                else:
                    names += [alias.name for alias in node.names]
            self.assertEqual(len(names), len(set(names)))

    def test_names(self):
        for path, text, tree in self.each():
            barred = set(dir(builtins)) | {"input", "law", "register", "elements", "open", "mro"}
            for node in tree.body:
                if isinstance(node, ast.ImportFrom):
                    barred |= {alias.name for alias in node.names}
                if isinstance(node, ast.ClassDef):
                    barred.add(node.name)
            for node in ast.walk(tree):
                if isinstance(node, ast.arg):
                    self.assertNotIn(node.arg, barred)
                if isinstance(node, ast.Name) and isinstance(node.ctx, ast.Store):
                    self.assertNotIn(node.id, barred)
                if isinstance(node, ast.Name) and node.id in dir(builtins):
                    self.assertIn(node.id, BUILTINS)
                if isinstance(node, ast.Name) and isinstance(node.ctx, ast.Load):
                    self.assertNotEqual(node.id, "_")

    def test_methods_and_attributes(self):
        methods = own_methods() | set(METHODS)
        stored = set()
        read_alone = properties()
        for path, text, tree in self.each():
            stored |= {node.attr for node in ast.walk(tree)
                       if isinstance(node, ast.Attribute) and isinstance(node.ctx, ast.Store)}
        for path, text, tree in self.each():
            above = parents_in(tree)
            for node in ast.walk(tree):
                if isinstance(node, ast.Attribute) and isinstance(node.ctx, ast.Load):
                    up = above[node]
                    if isinstance(up, ast.Call) and up.func is node:
                        self.assertIn(node.attr, methods)
                    else:
                        self.assertIn(node.attr, stored | read_alone)
        self.assertEqual(stored & own_methods(), set())
        self.assertEqual(stored & read_alone, set())

    def test_what_is_iterated_at_once(self):
        lazy = set(LAZY) | generators()
        for path, text, tree in self.each():
            above = parents_in(tree)
            for node in ast.walk(tree):
                name = called_name(node)
                is_view = name in VIEWS and isinstance(node.func, ast.Attribute) and not node.args
                if name in lazy or is_view:
                    up = above[node]
                    in_loop = isinstance(up, (ast.For, ast.comprehension)) and up.iter is node
                    taken = called_name(up) in TAKERS and up.args[0] is node
                    self.assertTrue(in_loop or taken or isinstance(up, ast.YieldFrom), f"{name}, row {node.lineno}")
                if name == "set":
                    self.assertIn(called_name(above[node]), ("sorted", "len"))
                if name in ("any", "all") and node.args:
                    self.assertIsInstance(node.args[0], ast.ListComp)

    def test_stars_in_calls_stand_before_names_and_attributes(self):
        for path, text, tree in self.each():
            for node in ast.walk(tree):
                if isinstance(node, ast.Call):
                    for part in node.args:
                        if isinstance(part, ast.Starred):
                            self.assertIsInstance(part.value, (ast.Name, ast.Attribute))
                    self.assertTrue(all(keyword.arg for keyword in node.keywords))

    def test_a_table_is_not_called_straight_from_an_index(self):
        for path, text, tree in self.each():
            for node in ast.walk(tree):
                if isinstance(node, ast.Call):
                    self.assertNotIsInstance(node.func, (ast.Subscript, ast.Call))

    def test_nothing_gets_what_it_changes(self):
        for row in ("below[tree[place][1]] += below[place]", "xs += xs", "xs[0] += len(xs)", "self.xs += self.xs[1:]",
                    "xs.extend([x for x in xs])", "rows[0].extend(rows[1])", "d.update(d)", "d |= {1: d}"):
            self.assertTrue(any(gets_what_it_changes(node) for node in ast.walk(ast.parse(row))), row)
        for row in ("n += 1", "xs += ys[0]", "xs[k] += k", "self.xs += self.ys", "xs.extend(list(ys))", "xs = xs + xs", "n -= n // 2"):
            self.assertFalse(any(gets_what_it_changes(node) for node in ast.walk(ast.parse(row))), row)
        for path, text, tree in self.each():
            for node in ast.walk(tree):
                self.assertFalse(gets_what_it_changes(node), f"row {getattr(node, 'lineno', None)}")

    def test_no_loop_changes_what_it_iterates_over(self):
        for row in ("xs.append(x)", "del xs[0]", "xs[0] = x", "xs[0][1] += 1", "a, xs[2] = x", "xs[x].extend([1])"):
            for head in ("xs", "list(xs)", "xs[0]", "enumerate(xs)", "f(xs)"):
                loop = ast.parse(f"for x in {head}:\n    if x:\n        {row}").body[0]
                self.assertTrue(changes_what_it_iterates(loop), (head, row))
        self.assertFalse(changes_what_it_iterates(ast.parse("for x in xs:\n    ys.append(x)\n    x = xs").body[0]))
        for path, text, tree in self.each():
            for node in ast.walk(tree):
                if isinstance(node, ast.For):
                    self.assertFalse(changes_what_it_iterates(node), f"row {node.lineno}")

    def test_caught_errors_are_own(self):
        errors = ast.parse((PACKAGE / "errors.py").read_text())
        own = {node.name for node in errors.body if isinstance(node, ast.ClassDef)}
        for path, text, tree in self.each():
            for node in ast.walk(tree):
                if isinstance(node, ast.ExceptHandler):
                    for kind in getattr(node.type, "elts", [node.type]):
                        self.assertIn(kind.id, own)
                if isinstance(node, ast.Raise):
                    self.assertIn(called_name(node.exc), own)


if __name__ == "__main__":
    unittest.main()
