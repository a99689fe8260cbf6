"""Tests of the package as a whole: its interface, and what can be seen of the rules for its files."""

import ast
import importlib
import inspect
import os
import unittest

FOLDER = os.path.join(os.path.dirname(os.path.dirname(os.path.abspath(__file__))), "hushsteps")

ERRAND = ["house", "sleeper", "slow", "start", "goal"]
# What the interface lists, with its parameters.
INTERFACE = {
    "errors": {
        "HushError": None, "InvalidHouse": ["word"], "InvalidSleeper": ["word"], "InvalidWalk": ["word"],
        "InvalidEvent": ["at"], "InvalidText": ["at"], "InvalidNoises": ["at"], "InvalidCommand": None,
        "Refused": ["at"],
    },
    "houses": {"House": ["rooms", "doors", "floors", "cradles"]},
    "sleepers": {
        "Sleeper": ["sorts", "stir", "doze", "near", "loud"], "first_state": ["sleeper", "first"],
        "heard": ["sleeper", "state", "noise"], "ticked": ["sleeper", "state"], "hummed": ["sleeper", "state", "word"],
    },
    "walks": {
        "Walk": ["guests", "nurses", "first", "events"], "play": ["house", "sleeper", "walk"], "Played": None,
    },
    "guests": {
        "unheard": ["house", "sleeper", "first"], "fewest": ["house", "sleeper", "first", "room"],
        "way": ["house", "sleeper", "first", "room"],
    },
    "tables": {
        "table": ["house", "sleeper", "first", "room"],
        "table_holds": ["house", "sleeper", "first", "room", "value"],
    },
    "nurses": {
        "deeds_needed": ERRAND, "sure": ERRAND, "plan": ERRAND, "plan_holds": ERRAND + ["value"], "bar": ERRAND,
        "bar_holds": ERRAND + ["value"],
    },
    "times": {"least_stir": ERRAND, "greatest_stir": ["house", "sleeper", "first", "room"]},
    "boards": {
        "least_noises": ["house", "sleeper", "first", "room"], "needless": ["house", "sleeper", "first"],
        "safe_mends": ERRAND,
    },
    "comparing": {"alike": ["p", "q"], "parting": ["p", "q"]},
    "noises": {"possible": ["house", "lots"], "first_wrong": ["house", "lots"], "where": ["house", "lots"]},
    "live": {"Live": ["house", "sleeper", "guests", "nurses", "first"]},
    "desk": {"Desk": []},
}
METHODS = {
    ("houses", "House"): ("noises", "mended", "read", "__len__", "__eq__", "__str__"),
    ("sleepers", "Sleeper"): ("read", "__eq__", "__str__"),
    ("walks", "Walk"): ("upto", "further", "__len__", "__eq__"),
    ("live", "Live"): (
        "house", "sleeper", "walk", "played", "do", "several", "change", "undo", "within", "__len__",
    ),
    ("desk", "Desk"): ("say",),
}
LIBRARY = {"heapq", "math", "itertools", "collections"}
BARRED = {
    "hash", "id", "map", "filter", "type", "vars", "dir", "eval", "exec", "open", "input", "globals", "locals", "super",
    "float", "object", "delattr", "callable", "round", "print", "issubclass", "bytearray", "memoryview", "format",
}


def files():
    """The paths of the files of the package."""
    return [os.path.join(FOLDER, name) for name in sorted(os.listdir(FOLDER)) if name != "__pycache__"]


def text_of(path):
    with open(path, encoding="utf-8") as file:
        return file.read()


def defined(tree, name):
    return any(isinstance(node, (ast.FunctionDef, ast.ClassDef)) and node.name == name for node in tree.body)


class Interface(unittest.TestCase):
    def test_names_and_parameters(self):
        for module, things in INTERFACE.items():
            held = importlib.import_module("hushsteps." + module)
            for name, parameters in things.items():
                thing = getattr(held, name)
                self.assertEqual(thing.__module__, "hushsteps." + module)
                if parameters is not None:
                    self.assertEqual(list(inspect.signature(thing).parameters), parameters, name)

    def test_defined_in_their_files(self):
        for module, things in INTERFACE.items():
            tree = ast.parse(text_of(os.path.join(FOLDER, module + ".py")))
            for name in things:
                self.assertTrue(defined(tree, name), (module, name))

    def test_methods_stand_in_the_class_itself(self):
        for (module, name), methods in METHODS.items():
            held = getattr(importlib.import_module("hushsteps." + module), name)
            for method in methods:
                self.assertIn(method, vars(held), name)

    def test_parameters_of_methods(self):
        houses = importlib.import_module("hushsteps.houses")
        sleepers = importlib.import_module("hushsteps.sleepers")
        self.assertEqual(list(inspect.signature(houses.House.mended).parameters), ["self", "names"])
        self.assertEqual(list(inspect.signature(houses.House.read).parameters), ["text"])
        self.assertEqual(list(inspect.signature(sleepers.Sleeper.read).parameters), ["text"])
        parameters = inspect.signature(houses.House).parameters
        self.assertEqual((parameters["floors"].default, parameters["cradles"].default), ((), ()))
        walks = importlib.import_module("hushsteps.walks")
        self.assertEqual(list(inspect.signature(walks.Walk.upto).parameters), ["self", "many"])
        self.assertEqual(list(inspect.signature(walks.Walk.further).parameters), ["self", "events"])
        self.assertEqual(inspect.signature(walks.Walk).parameters["events"].default, ())
        live = importlib.import_module("hushsteps.live").Live
        for name, wanted in (("do", ["event"]), ("several", ["events"]), ("change", ["sleeper"]), ("undo", []),
                             ("within", ["work"])):
            self.assertEqual(list(inspect.signature(getattr(live, name)).parameters), ["self"] + wanted)
        desk = importlib.import_module("hushsteps.desk").Desk
        self.assertEqual(list(inspect.signature(desk.say).parameters), ["self", "command"])

    def test_the_init_file_is_a_docstring_alone(self):
        tree = ast.parse(text_of(os.path.join(FOLDER, "__init__.py")))
        self.assertEqual(len(tree.body), 1)
        self.assertIsNotNone(ast.get_docstring(tree))


class Rules(unittest.TestCase):
    def test_the_folder_holds_python_files_alone(self):
        for path in files():
            self.assertTrue(path.endswith(".py") and os.path.isfile(path), path)

    def test_characters_and_sizes(self):
        for path in files():
            text = text_of(path)
            self.assertTrue(all(sign == "\n" or " " <= sign <= "~" for sign in text), path)
            lines = text.split("\n")
            self.assertLessEqual(len(lines), 399, path)
            self.assertLessEqual(max(len(line) for line in lines), 120, path)

    def test_functions_are_short(self):
        for path in files():
            for node in ast.walk(ast.parse(text_of(path))):
                if isinstance(node, ast.FunctionDef):
                    self.assertLessEqual(node.end_lineno - node.lineno + 1, 40, (path, node.name))

    def test_no_name_is_a_method_and_an_attribute(self):
        methods, attributes = set(), set()
        for path in files():
            for node in ast.walk(ast.parse(text_of(path))):
                if isinstance(node, ast.ClassDef):
                    methods |= {row.name for row in node.body if isinstance(row, ast.FunctionDef)}
                if isinstance(node, ast.Attribute) and isinstance(node.ctx, ast.Store):
                    attributes.add(node.attr)
        self.assertEqual(methods & attributes, set())

    def test_no_file_imports_from_itself_by_way_of_others(self):
        ahead = {}
        for path in files():
            rows = ast.parse(text_of(path)).body
            modules = [row.module for row in rows if isinstance(row, ast.ImportFrom)]
            ahead[os.path.basename(path)] = {module.split(".")[-1] + ".py" for module in modules}
        while ahead:
            free = [name for name, wanted in ahead.items() if not wanted & set(ahead)]
            self.assertNotEqual(free, [], ahead)
            for name in free:
                del ahead[name]

    def test_no_local_name_is_an_import(self):
        for path in files():
            tree = ast.parse(text_of(path))
            held = {alias.name for row in tree.body if isinstance(row, ast.ImportFrom) for alias in row.names}
            held |= {row.name for row in tree.body if isinstance(row, ast.ClassDef)}
            for node in ast.walk(tree):
                if isinstance(node, ast.Name) and isinstance(node.ctx, ast.Store):
                    self.assertNotIn(node.id, held, path)
                if isinstance(node, ast.arg):
                    self.assertNotIn(node.arg, held, path)

    def test_imports_name_the_very_file(self):
        for path in files():
            for node in ast.walk(ast.parse(text_of(path))):
                self.assertNotIsInstance(node, (ast.Import, ast.Global), path)
                if isinstance(node, ast.ImportFrom) and node.module not in LIBRARY:
                    self.assertEqual((node.level, node.module.split(".")[0]), (0, "hushsteps"))
                    held = ast.parse(text_of(os.path.join(FOLDER, node.module.split(".")[1] + ".py")))
                    names = {target.id for row in held.body if isinstance(row, ast.Assign) for target in row.targets}
                    for alias in node.names:
                        self.assertTrue(defined(held, alias.name) or alias.name in names, (path, alias.name))

    def test_barred_words(self):
        for path in files():
            for node in ast.walk(ast.parse(text_of(path))):
                if isinstance(node, ast.Name):
                    self.assertNotIn(node.id, BARRED, path)
                self.assertNotIsInstance(node, (ast.AsyncFunctionDef, ast.Await, ast.Div), path)
                if isinstance(node, ast.Constant):
                    self.assertNotIsInstance(node.value, (float, complex), path)


if __name__ == "__main__":
    unittest.main()
