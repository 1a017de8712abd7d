"""What can be seen of ../shared/LANGUAGE.md without much ado: sizes, signs, imports, and what isn't used."""

import ast
import pathlib
import unittest

FOLDER = pathlib.Path(__file__).resolve().parent.parent / "mustmays"
BUILTINS = set(
    "len range enumerate zip min max sum abs sorted reversed int str bool bytes list tuple dict set frozenset "
    "isinstance ord repr any all divmod iter next map Exception ValueError TypeError KeyError IndexError "
    "LookupError ZeroDivisionError ArithmeticError OverflowError RuntimeError NotImplementedError AttributeError "
    "StopIteration NotImplemented True False None".split())
BARRED = (
    ast.AsyncFunctionDef, ast.AsyncFor, ast.AsyncWith, ast.Await, ast.Global, ast.Div, ast.MatMult, ast.Pow,
    ast.GeneratorExp)
METHODS = set(
    "append clear copy count endswith extend find get index insert isalnum isalpha isdigit islower isspace isupper "
    "items join keys ljust lower lstrip partition pop remove replace reverse rfind rjust rpartition rsplit rstrip "
    "setdefault split splitlines startswith strip update upper values zfill bit_length add discard".split())

BARRED_NAMES = set(
    "register mro elements open input law version_info with_traceback add_note attrgetter breakpoint builtins compile "
    "copyright credits delattr dir eval exec exit gc getattr globals hasattr help id importlib license locals "
    "methodcaller os quit setattr super type vars sys format format_map typing enum args encode decode hex chr "
    "property staticmethod classmethod".split())


def trees():
    for path in sorted(FOLDER.glob("*.py")):
        yield path, path.read_text(encoding="utf-8")


class Language(unittest.TestCase):
    def test_nothing_else_in_the_folder(self):
        others = [p.name for p in FOLDER.iterdir() if p.suffix != ".py" and p.name != "__pycache__"]
        self.assertEqual(others, [])

    def test_sizes_and_signs(self):
        for path, text in trees():
            lines = text.split("\n")
            self.assertLessEqual(len(lines), 399, path)
            self.assertTrue(all(len(line) <= 120 for line in lines), path)
            self.assertTrue(all(sign == "\n" or " " <= sign <= "~" for sign in text), path)
            for node in ast.walk(ast.parse(text)):
                if isinstance(node, ast.FunctionDef):
                    self.assertLessEqual(node.end_lineno - node.lineno + 1, 40, (path, node.name))
                    self.assertEqual(node.decorator_list, [], (path, node.name))

    def test_imports(self):
        for path, text in trees():
            tree = ast.parse(text)
            for node in ast.walk(tree):
                self.assertNotIsInstance(node, ast.Import, path)
                if isinstance(node, ast.ImportFrom):
                    self.assertIn(node, tree.body, path)
                    self.assertTrue(node.module.startswith("mustmays."), path)
                    home = FOLDER / (node.module.split(".")[1] + ".py")
                    bound = {n.name for n in ast.parse(home.read_text()).body if hasattr(n, "name")}
                    bound |= {t.id for n in ast.parse(home.read_text()).body if isinstance(n, ast.Assign)
                              for t in n.targets}
                    for name in node.names:
                        self.assertIsNone(name.asname, path)
                        self.assertIn(name.name, bound, path)

    def test_no_two_files_import_from_each_other(self):
        led = {}
        for path, text in trees():
            led[path.stem] = {
                node.module.split(".")[1] for node in ast.parse(text).body if isinstance(node, ast.ImportFrom)}
        while led:
            ends = [name for name, others in led.items() if not others & set(led)]
            self.assertNotEqual(ends, [], led)
            led = {name: others for name, others in led.items() if name not in ends}

    def test_each_import_is_used(self):
        for path, text in trees():
            tree = ast.parse(text)
            used = {node.id for node in ast.walk(tree) if isinstance(node, ast.Name)}
            for node in tree.body:
                if isinstance(node, ast.ImportFrom):
                    self.assertLessEqual({name.name for name in node.names}, used, path)

    def test_names(self):
        every_builtin = set(dir(__builtins__)) if not isinstance(__builtins__, dict) else set(__builtins__)
        for path, text in trees():
            tree = ast.parse(text)
            bound = {node.id for node in ast.walk(tree) if isinstance(node, ast.Name)
                     and isinstance(node.ctx, ast.Store)}
            bound |= {node.arg for node in ast.walk(tree) if isinstance(node, ast.arg)}
            self.assertEqual(bound & every_builtin, set(), path)
            read = {node.id for node in ast.walk(tree) if isinstance(node, ast.Name)}
            self.assertLessEqual(read & every_builtin, BUILTINS, path)

    def test_what_is_not_used(self):
        own = {node.name for _, text in trees() for node in ast.walk(ast.parse(text))
               if isinstance(node, ast.FunctionDef)}
        for path, text in trees():
            for node in ast.walk(ast.parse(text)):
                self.assertNotIsInstance(node, BARRED, (path, getattr(node, "lineno", 0)))
                if isinstance(node, ast.Constant):
                    self.assertNotIsInstance(node.value, float, path)
                if isinstance(node, ast.Call) and isinstance(node.func, ast.Attribute):
                    self.assertIn(node.func.attr, METHODS | own, (path, node.lineno))
                if isinstance(node, ast.Compare):
                    for operator, right in zip(node.ops, node.comparators):
                        if isinstance(operator, (ast.Is, ast.IsNot)):
                            self.assertIsInstance(right, ast.Constant, (path, node.lineno))

    def test_names_that_are_barred(self):
        for path, text in trees():
            names = set()
            for node in ast.walk(ast.parse(text)):
                for kind, field in (
                        (ast.Name, "id"), (ast.Attribute, "attr"), (ast.arg, "arg"), (ast.keyword, "arg"),
                        (ast.FunctionDef, "name"), (ast.ClassDef, "name")):
                    if isinstance(node, kind):
                        names.add(getattr(node, field))
                if isinstance(node, ast.Constant) and isinstance(node.value, str):
                    self.assertNotIn("%", node.value, path)
                    self.assertNotIn("type", node.value, path)
            self.assertEqual(names & BARRED_NAMES, set(), path)
            for name in names - {"__init__", "__eq__", "__ne__", "__len__", "__str__", None}:
                self.assertFalse(name.startswith("__"), (path, name))

    def test_no_attribute_has_the_name_of_a_method(self):
        methods, attributes = set(), set()
        for path, text in trees():
            for node in ast.walk(ast.parse(text)):
                if isinstance(node, ast.ClassDef):
                    self.assertEqual(node.decorator_list, [], path)
                    found = [part.name for part in node.body if isinstance(part, ast.FunctionDef)]
                    self.assertEqual(len(found), len(set(found)), (path, node.name))
                    methods |= set(found)
                if isinstance(node, ast.Attribute) and isinstance(node.ctx, ast.Store):
                    attributes.add(node.attr)
        self.assertEqual(methods & attributes, set())
        self.assertEqual((methods | attributes) & (METHODS - {"count", "index"}), set())

    def test_errors_are_caught_by_own_names(self):
        own = {node.name for node in ast.parse((FOLDER / "errors.py").read_text()).body
               if isinstance(node, ast.ClassDef)}
        for path, text in trees():
            for node in ast.walk(ast.parse(text)):
                if isinstance(node, ast.ExceptHandler):
                    caught = node.type.elts if isinstance(node.type, ast.Tuple) else [node.type]
                    self.assertLessEqual({name.id for name in caught}, own, path)
                if isinstance(node, ast.Raise) and node.exc is not None:
                    self.assertIn(node.exc.func.id, own, path)

    def test_module_level(self):
        for path, text in trees():
            for node in ast.parse(text).body:
                self.assertIsInstance(node, (
                    ast.ImportFrom, ast.FunctionDef, ast.ClassDef, ast.Assign, ast.Expr), (path, node.lineno))
                if isinstance(node, ast.Expr):
                    self.assertIsInstance(node.value, ast.Constant, path)

    def test_no_variable_has_the_name_of_a_class_or_an_import(self):
        for path, text in trees():
            tree = ast.parse(text)
            named = {node.name for node in tree.body if isinstance(node, (ast.ClassDef, ast.FunctionDef))}
            named |= {name.name for node in tree.body if isinstance(node, ast.ImportFrom) for name in node.names}
            for node in ast.walk(tree):
                if isinstance(node, ast.FunctionDef):
                    inner = {part.id for part in ast.walk(node) if isinstance(part, ast.Name)
                             and isinstance(part.ctx, ast.Store)}
                    inner |= {part.arg for part in ast.walk(node) if isinstance(part, ast.arg)}
                    self.assertEqual(inner & named, set(), (path, node.name))
