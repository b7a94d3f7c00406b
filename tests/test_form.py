"""The form of the code: what of the language rules a plain look at the files can tell."""

import ast
import builtins
import pathlib
import unittest

PACKAGE = pathlib.Path(__file__).resolve().parent.parent / "anyplaces"

BUILTINS = {
    "len", "range", "enumerate", "zip", "min", "max", "sum", "abs", "sorted", "reversed", "int", "str", "bool", "list",
    "tuple", "dict", "set", "isinstance", "repr", "any", "all", "divmod", "ValueError", "map",
}
METHODS = {
    "append", "clear", "copy", "count", "endswith", "extend", "find", "get", "index", "insert", "isdigit", "items",
    "join", "keys", "partition", "pop", "remove", "replace", "reverse", "setdefault", "split", "startswith", "strip",
    "update", "values", "bit_length", "__init__",
}
BARRED = {
    "register", "mro", "elements", "open", "input", "law", "id", "type", "vars", "dir", "eval", "exec", "exit", "help",
    "compile", "globals", "locals", "quit", "os", "gc",
}
# what may be imported from Python's own library, and is called by its bare name
LIBRARY = {"math": {"comb"}, "itertools": {"combinations"}}
NODES_BARRED = (
    ast.AsyncFunctionDef, ast.Global, ast.Lambda, ast.Try, ast.With, ast.Div, ast.MatMult, ast.GeneratorExp,
    ast.Yield, ast.YieldFrom, ast.JoinedStr, ast.Starred,
)


def files():
    return sorted(PACKAGE.glob("*.py"))


def trees():
    return [(path.name, ast.parse(path.read_text())) for path in files()]


def bound_names(tree):
    names = set()
    for node in ast.walk(tree):
        if isinstance(node, (ast.FunctionDef, ast.ClassDef)):
            names.add(node.name)
        elif isinstance(node, ast.arg):
            names.add(node.arg)
        elif isinstance(node, ast.Name) and isinstance(node.ctx, ast.Store):
            names.add(node.id)
    return names


class TestFiles(unittest.TestCase):
    def test_nothing_else_in_the_folder(self):
        others = [path.name for path in PACKAGE.iterdir() if path.suffix != ".py" and path.name != "__pycache__"]
        self.assertEqual(others, [])
        self.assertIn("__init__.py", [path.name for path in files()])

    def test_lines(self):
        for path in files():
            text = path.read_text()
            self.assertTrue(all(sign == "\n" or " " <= sign <= "~" for sign in text), path.name)
            lines = text.split("\n")
            self.assertLess(len(lines), 400, path.name)
            for number, line in enumerate(lines, 1):
                self.assertLessEqual(len(line), 120, (path.name, number))
                self.assertEqual(line, line.rstrip(), (path.name, number))

    def test_functions_are_short(self):
        for name, tree in trees():
            for node in ast.walk(tree):
                if isinstance(node, ast.FunctionDef):
                    self.assertLessEqual(node.end_lineno - node.lineno + 1, 40, (name, node.name))
                    self.assertEqual(node.decorator_list, [], (name, node.name))


class TestNames(unittest.TestCase):
    def test_imports(self):
        read = {}
        for name, tree in trees():
            read[name] = []
            for node in ast.walk(tree):
                self.assertNotIsInstance(node, ast.Import, name)
                if not isinstance(node, ast.ImportFrom):
                    continue
                if node.module in LIBRARY:
                    self.assertLessEqual({one.name for one in node.names}, LIBRARY[node.module], name)
                    self.assertEqual([one.asname for one in node.names if one.asname], [], name)
                    continue
                self.assertTrue(node.module.startswith("anyplaces."), (name, node.module))
                source = node.module.split(".")[1] + ".py"
                defined = {
                    getattr(one, "name", None) or one.targets[0].id for one in dict(trees())[source].body
                    if isinstance(one, (ast.FunctionDef, ast.ClassDef, ast.Assign))
                }
                self.assertEqual([one.name for one in node.names if one.name not in defined or one.asname], [], name)
                read[name].append(source)
        done = []
        while len(done) < len(read):
            ready = [name for name in read if name not in done and all(one in done for one in read[name])]
            self.assertTrue(ready, "files import from each other")
            done.extend(ready)

    def test_each_import_is_used(self):
        for name, tree in trees():
            used = {node.id for node in ast.walk(tree) if isinstance(node, ast.Name)}
            for node in ast.walk(tree):
                if isinstance(node, ast.ImportFrom):
                    self.assertEqual([one.name for one in node.names if one.name not in used], [], name)

    def test_no_builtin_named_anew(self):
        for name, tree in trees():
            bound = bound_names(tree)
            self.assertEqual(bound & (set(dir(builtins)) | BARRED) - {"__init__"}, set(), name)
            imported = {one.name for node in ast.walk(tree) if isinstance(node, ast.ImportFrom) for one in node.names}
            self.assertEqual(bound & imported, set(), name)

    def test_no_name_bound_twice(self):
        for name, tree in trees():
            outer = [node.name for node in tree.body if isinstance(node, (ast.FunctionDef, ast.ClassDef))]
            self.assertEqual(len(outer), len(set(outer)), name)
            for node in ast.walk(tree):
                if isinstance(node, ast.FunctionDef):
                    inner = {one.id for one in ast.walk(node)
                             if isinstance(one, ast.Name) and isinstance(one.ctx, ast.Store)}
                    inner |= {one.arg for one in node.args.args}
                    self.assertEqual(inner & set(outer), set(), (name, node.name))


class TestStatements(unittest.TestCase):
    def test_plain_ones(self):
        for name, tree in trees():
            for node in ast.walk(tree):
                self.assertNotIsInstance(node, NODES_BARRED, name)
                if isinstance(node, ast.Constant):
                    self.assertNotIsInstance(node.value, (float, complex), name)
                    self.assertNotIn("%", str(node.value), name)
                if isinstance(node, ast.BinOp) and isinstance(node.op, ast.Pow):
                    self.assertIsInstance(node.right, ast.Constant, name)
                if isinstance(node, ast.Compare) and isinstance(node.ops[0], (ast.Is, ast.IsNot)):
                    self.assertIsInstance(node.comparators[0], ast.Constant, name)

    def test_module_level(self):
        plain = (ast.ImportFrom, ast.FunctionDef, ast.ClassDef, ast.Assign, ast.Expr)
        for name, tree in trees():
            functions = [node.name for node in tree.body if isinstance(node, ast.FunctionDef)]
            for node in tree.body:
                self.assertIsInstance(node, plain, name)
                if isinstance(node, ast.Assign) and isinstance(node.value, ast.Dict):
                    # a table of plain values, or of functions that stand above it
                    self.assertTrue(all(isinstance(key, ast.Constant) for key in node.value.keys), name)
                    named = [worth for worth in node.value.values if not isinstance(worth, ast.Constant)]
                    self.assertTrue(all(isinstance(worth, ast.Name) and worth.id in functions for worth in named), name)
                elif isinstance(node, (ast.Assign, ast.Expr)):
                    self.assertIsInstance(node.value, ast.Constant, name)

    def test_methods(self):
        # no attribute has the name of a method, and no method is read off a class
        methods, attributes, classes = set(), set(), set()
        for _, tree in trees():
            for node in ast.walk(tree):
                if isinstance(node, ast.ClassDef):
                    classes.add(node.name)
                    methods |= {one.name for one in node.body if isinstance(one, ast.FunctionDef)}
                elif isinstance(node, ast.Attribute) and isinstance(node.ctx, ast.Store):
                    attributes.add(node.attr)
        self.assertLessEqual({one for one in methods if one.startswith("__")}, {"__init__", "__eq__"})
        self.assertEqual(methods & attributes, set())
        for name, tree in trees():
            for node in ast.walk(tree):
                if isinstance(node, ast.Attribute) and isinstance(node.value, ast.Name) and node.value.id in classes:
                    self.assertEqual(node.attr, "__init__", name)

    def test_calls(self):
        for name, tree in trees():
            own = bound_names(tree)
            own |= {one.name for node in ast.walk(tree) if isinstance(node, ast.ImportFrom) for one in node.names}
            for node in ast.walk(tree):
                if isinstance(node, ast.Call) and isinstance(node.func, ast.Name):
                    self.assertIn(node.func.id, own | BUILTINS, name)
                elif isinstance(node, ast.Call):
                    self.assertIn(node.func.attr, METHODS, name)


if __name__ == "__main__":
    unittest.main()
