"""The rules for the package's files that a short test can see, and the interface."""

import ast
import builtins
import importlib
import inspect
import pathlib
import unittest

FOLDER = pathlib.Path(__file__).resolve().parent.parent / "slotgaps"
LIBRARY = {"heapq", "math", "itertools", "collections"}
BARRED = (
    ast.AsyncFunctionDef, ast.Await, ast.Div, ast.GeneratorExp, ast.Global, ast.Import, ast.Try, ast.Yield,
    ast.YieldFrom)
BUILTINS = set("""
    len range enumerate zip min max sum abs sorted reversed int str bool bytes list tuple dict set frozenset
    isinstance ord chr repr any all divmod pow getattr hasattr setattr iter next map type super property
    staticmethod classmethod Exception ValueError TypeError KeyError IndexError LookupError ZeroDivisionError
    ArithmeticError OverflowError RuntimeError NotImplementedError AttributeError StopIteration NotImplemented
    True False None""".split())

INTERFACE = {
    "errors": {
        "InvalidName": ["name"], "NameInUse": ["name"], "DiaryFull": ["limit"], "InvalidStep": ["step"],
        "NoPlan": ["message"]},
    "patterns": {
        "is_pattern": ["value"], "contains": ["pattern", "time"], "smallest": ["pattern"],
        "union": ["pattern", "other"], "intersection": ["pattern", "other"], "shifted": ["pattern", "by"],
        "next_time": ["pattern", "time"], "last_time": ["pattern", "time"]},
    "errands": {"is_errand": ["value"], "wait_holds": ["wait", "times"], "mirrored": ["errand"]},
    "plans": {"is_plan": ["errand", "value"], "find_plan": ["errand", "times"]},
    "ends": {
        "earliest": ["errand", "start"], "latest": ["errand", "start"],
        "earliest_from": ["errand", "i", "time"], "latest_by": ["errand", "i", "time"],
        "windows": ["errand", "times"]},
    "refutations": {
        "is_refutation": ["errand", "times", "value"], "find_refutation": ["errand", "times"]},
    "starts": {"good_starts": ["errand"], "next_good": ["errand", "time"], "worst_wait": ["errand"]},
    "durations": {
        "shortest": ["errand", "i", "j"], "longest": ["errand", "i", "j"],
        "find_duration": ["errand", "i", "j", "duration"]},
    "greedy": {"walk": ["errand", "start"], "find_failure": ["errand"]},
    "needless": {"without": ["errand", "drops"], "find_breach": ["errand", "w"], "trimmed": ["errand"]},
    "blame": {"blame": ["errand", "start"], "find_drops": ["errand"]},
    "comparing": {
        "find_difference": ["errand", "other"], "are_equivalent": ["errand", "other"],
        "used_times": ["errand", "step"]},
    "diary": {"Diary": ["errand"]},
}

METHODS = {
    "begin": ["name", "start"], "do": ["name", "step", "time"], "cancel": ["name"], "undo": [], "names": [],
    "done": ["name"], "plan": ["name"], "windows": ["name"], "due": ["time"], "__eq__": ["other"]}


def sources():
    return {path: path.read_text(encoding="utf-8") for path in sorted(FOLDER.glob("*.py"))}


def parsed(module):
    return ast.parse((FOLDER / (module.removeprefix("slotgaps.") + ".py")).read_text(encoding="utf-8"))


def imported(tree):
    return [(node.module, name.name) for node in tree.body if isinstance(node, ast.ImportFrom) for name in node.names]


def defined(tree):
    """The names that a file binds, but for its imports."""
    names = [node.name for node in tree.body if isinstance(node, (ast.FunctionDef, ast.ClassDef))]
    return names + [target.id for node in tree.body if isinstance(node, ast.Assign) for target in node.targets]


class Files(unittest.TestCase):
    def test_python_files_alone(self):
        for path in FOLDER.iterdir():
            if path.name != "__pycache__":
                self.assertEqual((path.suffix, path.name.lower(), path.is_file()), (".py", path.name, True))

    def test_sizes(self):
        for path, text in sources().items():
            self.assertLessEqual(len(text.splitlines()), 399, path)
            for line in text.splitlines():
                self.assertLessEqual(len(line), 120, path)
            for node in ast.walk(ast.parse(text)):
                if isinstance(node, ast.FunctionDef):
                    self.assertLessEqual(node.end_lineno - node.lineno + 1, 40, (path, node.name))

    def test_characters(self):
        for path, text in sources().items():
            self.assertTrue(all(" " <= sign <= "~" or sign == "\n" for sign in text), path)


class Code(unittest.TestCase):
    def test_module_level(self):
        for path, text in sources().items():
            for at, node in enumerate(ast.parse(text).body):
                docstring = at == 0 and isinstance(node, ast.Expr)
                kinds = (ast.ImportFrom, ast.FunctionDef, ast.ClassDef, ast.Assign)
                self.assertTrue(docstring or isinstance(node, kinds), (path, node.lineno))

    def test_imports(self):
        for path, text in sources().items():
            for node in ast.walk(ast.parse(text)):
                if isinstance(node, ast.ImportFrom):
                    self.assertEqual(node.level, 0, path)
                    self.assertTrue(node.module in LIBRARY or node.module.startswith("slotgaps."), path)

    def test_statements(self):
        for path, text in sources().items():
            for node in ast.walk(ast.parse(text)):
                self.assertNotIsInstance(node, BARRED, path)
                if isinstance(node, ast.Constant):
                    self.assertNotIsInstance(node.value, (float, complex), path)
                if isinstance(node, ast.Name) and hasattr(builtins, node.id):
                    self.assertIn(node.id, BUILTINS, (path, node.lineno))


class Names(unittest.TestCase):
    def test_each_import_is_from_the_file_that_defines_the_name(self):
        for path, text in sources().items():
            tree = ast.parse(text)
            used = {node.id for node in ast.walk(tree) if isinstance(node, ast.Name)}
            for module, name in imported(tree):
                self.assertIn(name, used, path)
                if module not in LIBRARY:
                    self.assertIn(name, defined(parsed(module)), path)

    def test_no_file_imports_itself_through_others(self):
        modules = {"slotgaps." + path.stem: ast.parse(text) for path, text in sources().items()}
        needs = {module: {name for name, _ in imported(tree) if name in modules} for module, tree in modules.items()}
        while needs:
            free = [module for module in needs if not needs[module]]
            self.assertTrue(free, needs)
            needs = {module: needs[module] - set(free) for module in needs if module not in free}

    def test_one_meaning_for_each_name(self):
        for path, text in sources().items():
            tree = ast.parse(text)
            outer = defined(tree) + [name for _, name in imported(tree)]
            self.assertEqual(len(outer), len(set(outer)), path)
            inner = {node.arg for node in ast.walk(tree) if isinstance(node, ast.arg)}
            for node in ast.walk(tree):
                if isinstance(node, ast.FunctionDef):
                    inner |= {name.id for name in ast.walk(node)
                              if isinstance(name, ast.Name) and isinstance(name.ctx, ast.Store)}
            self.assertEqual(inner & set(outer), set(), path)
            for name in inner | set(outer):
                self.assertFalse(hasattr(builtins, name), (path, name))

    def test_methods_and_attributes_of_a_class(self):
        for path, text in sources().items():
            for node in ast.walk(ast.parse(text)):
                if isinstance(node, ast.ClassDef):
                    methods = [part.name for part in node.body if isinstance(part, ast.FunctionDef)]
                    stored = {part.attr for part in ast.walk(node)
                              if isinstance(part, ast.Attribute) and isinstance(part.ctx, ast.Store)}
                    self.assertEqual(len(methods), len(set(methods)), path)
                    self.assertEqual(stored & set(methods), set(), path)


class Interface(unittest.TestCase):
    def test_names_and_arguments(self):
        for name, members in INTERFACE.items():
            module = importlib.import_module("slotgaps." + name)
            for member, arguments in members.items():
                found = getattr(module, member)
                self.assertEqual(list(inspect.signature(found).parameters), arguments, member)
                self.assertEqual(found.__module__, "slotgaps." + name, member)

    def test_methods(self):
        diary = importlib.import_module("slotgaps.diary")
        for method, arguments in METHODS.items():
            found = vars(diary.Diary)[method]
            self.assertEqual(list(inspect.signature(found).parameters), ["self"] + arguments, method)

    def test_each_module_is_listed(self):
        helpers = {"__init__", "climbs", "cycles", "values"}
        self.assertEqual({path.stem for path in sources()} - helpers, set(INTERFACE))


if __name__ == "__main__":
    unittest.main()
