"""The interface by its names and arguments, and what ../shared/LANGUAGE.md says that can simply be counted."""

import ast
import importlib
import inspect
import pathlib
import re
import unittest

LIBRARY = ("heapq", "math", "itertools", "collections")
PACKAGE = pathlib.Path(__file__).resolve().parent.parent / "dialpack"

INTERFACE = {
    "locks": {
        "is_lock": ["value"], "is_state": ["lock", "value"], "is_open": ["lock", "state", "gates", "tolerance"],
        "reach_of": ["lock", "wheel"], "numbers_of": ["lock", "state"],
        "pushed_up": ["lock", "dial"], "pushed_back": ["lock", "dial"],
    },
    "turning": {
        "turned_state": ["lock", "state", "turns"], "state_trail": ["lock", "state", "turns"],
        "way_of": ["turns"], "joined_turns": ["turns"],
        "moved_wheels": ["lock", "state", "turn"], "click_row": ["lock", "state", "turn"],
    },
    "effects": {
        "effect_of": ["lock", "turns"], "same_effect": ["lock", "one", "other"],
        "telling_state": ["lock", "one", "other"], "shows_telling": ["lock", "one", "other", "value"],
    },
    "unseen": {
        "wheel_spans": ["lock", "dial", "spans", "turns"], "gathered_wheels": ["lock", "turns"],
        "is_gathered": ["lock", "turns"], "gathered_from": ["lock", "turns"],
        "must_open": ["lock", "dial", "spans", "turns", "gates", "tolerance"],
        "can_open": ["lock", "dial", "spans", "turns", "gates", "tolerance"],
        "open_start": ["lock", "dial", "spans", "turns", "gates", "tolerance"],
        "shows_start": ["lock", "dial", "spans", "turns", "gates", "tolerance", "value"],
    },
    "combos": {
        "forbidden_numbers": ["lock", "wheel", "number"], "can_dial": ["lock", "gates", "tolerance"],
        "open_state": ["lock", "gates", "tolerance"], "dial_count": ["lock"], "gates_rank": ["lock", "gates"],
        "nth_gates": ["lock", "index"],
    },
    "dialing": {"goal_turns": ["lock", "state", "goal"], "goal_way": ["lock", "state", "goal"]},
    "shortest": {
        "least_way": ["lock", "state", "gates"], "least_turns": ["lock", "state", "gates"],
        "shows_dialing": ["lock", "state", "gates", "value"],
    },
    "blind": {
        "blind_way": ["lock", "dial", "gates"], "blind_turns": ["lock", "dial", "gates"],
        "shows_blind": ["lock", "dial", "gates", "value"],
    },
    "hands": {
        "hand_spans": ["lock", "state", "turns", "hand"],
        "sure_open": ["lock", "state", "turns", "hand", "gates", "tolerance"],
        "greatest_hand": ["lock", "state", "turns", "gates", "tolerance"],
        "off_list": ["lock", "state", "turns", "hand", "gates", "tolerance"],
        "shows_off": ["lock", "state", "turns", "hand", "gates", "tolerance", "value"],
    },
    "plays": {
        "place_behind": ["reach", "turns"], "reaches_for": ["turns", "place", "most"],
        "reaches_open": ["ring", "turns", "gate", "tolerance", "most"],
    },
    "tries": {
        "left_count": ["lock", "tolerance", "tries"], "is_left": ["lock", "tolerance", "tries", "gates"],
        "left_numbers": ["lock", "tolerance", "tries", "wheel"], "nth_left": ["lock", "tolerance", "tries", "index"],
        "left_rank": ["lock", "tolerance", "tries", "gates"],
    },
    "texts": {
        "format_lock": ["lock"], "format_turns": ["turns"], "format_state": ["state"], "format_gates": ["gates"],
        "parse_lock": ["text"], "parse_turns": ["text"], "parse_state": ["lock", "text"],
        "parse_gates": ["lock", "text"],
    },
}

CLASSES = {"live": ["Door"], "console": ["Console"]}


def sources():
    return sorted(path for path in PACKAGE.rglob("*") if path.is_file() and "__pycache__" not in path.parts)


class Interface(unittest.TestCase):
    def test_functions(self):
        for name, functions in INTERFACE.items():
            module = importlib.import_module("dialpack." + name)
            for function, names in functions.items():
                with self.subTest(module=name, function=function):
                    found = getattr(module, function)
                    self.assertTrue(inspect.isfunction(found))
                    self.assertEqual(found.__module__, module.__name__)
                    self.assertEqual(list(inspect.signature(found).parameters), names)

    def test_classes(self):
        for name, classes in CLASSES.items():
            module = importlib.import_module("dialpack." + name)
            for found in [getattr(module, name) for name in classes]:
                self.assertTrue(inspect.isclass(found))
                self.assertEqual(found.__module__, module.__name__)

    def test_package_holds_just_these_and_what_they_share(self):
        names = sorted(path.stem for path in sources())
        self.assertEqual(names, sorted([*INTERFACE, *CLASSES, "errors", "checks", "__init__"]))


class Language(unittest.TestCase):
    def test_files(self):
        for path in sources():
            with self.subTest(path.name):
                self.assertRegex(path.name, r"\A[a-z0-9_]+\.py\Z")

    def test_sizes_and_characters(self):
        for path in sources():
            text = path.read_bytes().decode("ascii")
            lines = text.split("\n")
            with self.subTest(path.name):
                self.assertLessEqual(len(lines), 400)
                self.assertLessEqual(max(map(len, lines)), 120)
                self.assertFalse(re.search(r"[^\n -~]", text))

    def test_functions(self):
        for path in sources():
            for node in ast.walk(ast.parse(path.read_text())):
                if isinstance(node, ast.FunctionDef):
                    with self.subTest(path.name, function=node.name):
                        self.assertLessEqual(node.end_lineno - node.lineno + 1, 40)

    def test_imports(self):
        for path in sources():
            for node in ast.walk(ast.parse(path.read_text())):
                self.assertNotIsInstance(node, ast.Import, path.name)
                if isinstance(node, ast.ImportFrom):
                    with self.subTest(path.name, module=node.module):
                        self.assertEqual(node.level, 0)
                        self.assertTrue(node.module.startswith("dialpack.") or node.module in LIBRARY)


if __name__ == "__main__":
    unittest.main()
