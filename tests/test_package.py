"""The package as a whole: its interface, and the plainest rules of its language."""

import ast
import inspect
import pathlib
import unittest

from dimkeepers import boards, counts, known, losses, lots, orders, sessions, streams, tellings, texts, told, work

FOLDER = pathlib.Path(boards.__file__).parent
INTERFACE = {
    boards: {"fault": ["board"], "things": ["board"], "names": ["board"], "who": ["board", "thing"],
             "eldest": ["board", "name"]},
    lots: {"barred": ["board", "lot", "thing"], "stuck": ["board"], "stuck_shows": ["board", "lot"],
           "rounds": ["board", "lot"]},
    orders: {"can_have": ["board", "order"], "order_of": ["board"], "history_of": ["board", "order"],
             "leaves": ["board", "history"]},
    known: {"ahead": ["board", "one", "other"], "lot_for": ["board", "one", "other"],
            "lot_shows": ["board", "one", "other", "lot"], "against": ["board", "one", "other"],
            "pairs": ["board"], "newest": ["board"], "eldest_ones": ["board"]},
    told: {"told_to": ["board", "thing", "name"], "paper": ["board", "thing", "name"],
           "paper_shows": ["board", "thing", "name", "word", "found"],
           "two_histories": ["board", "thing", "name"]},
    counts: {"many": ["board"], "many_ahead": ["board", "one", "other"], "places": ["board", "thing"],
             "nth": ["board", "number"]},
    losses: {"without": ["board", "names"], "freeing": ["board", "one", "other"], "showing": ["board", "one", "other"],
             "bears": ["board", "one", "other"]},
    tellings: {"behind": ["board", "thing", "names"], "lost": ["board", "thing", "names"],
               "won": ["board", "thing", "names"], "kindest": ["board", "thing"]},
    streams: {"both": ["one", "other"], "only_both": ["one", "other"], "apart": ["one", "other"]},
    texts: {"written": ["board"], "read": ["text"]},
    sessions: {"session": ["leasts", "rows"]},
}
METHODS = {"come": ["team", "name", "room"], "tell": ["thing", "names"], "lose": ["name"], "resize": ["name", "room"],
           "undo": [], "board": [], "deeds": [], "last": []}


def sources():
    return {path.name: path.read_text(encoding="utf-8") for path in sorted(FOLDER.glob("*.py"))}


class Interface(unittest.TestCase):

    def test_each_function_stands_in_its_file_with_its_arguments(self):
        for module, functions in INTERFACE.items():
            for name, arguments in functions.items():
                with self.subTest(f"{module.__name__} {name}"):
                    function = getattr(module, name)
                    self.assertTrue(inspect.isfunction(function))
                    self.assertEqual(module.__name__, function.__module__)
                    self.assertEqual(arguments, list(inspect.signature(function).parameters))

    def test_the_class_has_its_methods_itself(self):
        self.assertEqual(work.__name__, work.Keepers.__module__)
        self.assertEqual(["leasts"], list(inspect.signature(work.Keepers).parameters))
        for name, arguments in METHODS.items():
            with self.subTest(name):
                method = vars(work.Keepers)[name]
                self.assertTrue(inspect.isfunction(method))
                self.assertEqual(["self", *arguments], list(inspect.signature(method).parameters))


class Language(unittest.TestCase):

    def test_the_folder_holds_nothing_but_files_of_the_program(self):
        found = [path.name for path in FOLDER.iterdir() if path.name != "__pycache__"]
        self.assertEqual(sorted(sources()), sorted(found))
        self.assertIn("__init__.py", found)

    def test_signs_and_sizes(self):
        for name, text in sources().items():
            with self.subTest(name):
                self.assertTrue(all(sign == "\n" or " " <= sign <= "~" for sign in text))
                rows = text.split("\n")
                self.assertLessEqual(len(rows), 400)
                self.assertLessEqual(max(len(row) for row in rows), 120)

    def test_functions_are_short(self):
        for name, text in sources().items():
            for node in ast.walk(ast.parse(text)):
                if isinstance(node, ast.FunctionDef):
                    with self.subTest(f"{name} {node.name}"):
                        self.assertLessEqual(node.end_lineno - node.lineno + 1, 40)

    def test_imports_are_from_files_of_the_package(self):
        for name, text in sources().items():
            for node in ast.walk(ast.parse(text)):
                with self.subTest(name):
                    self.assertNotIsInstance(node, ast.Import)
                    if isinstance(node, ast.ImportFrom) and node.module == "itertools":
                        self.assertEqual(["combinations"], [some.name for some in node.names])
                    elif isinstance(node, ast.ImportFrom):
                        self.assertEqual("dimkeepers", node.module.split(".")[0])
                        self.assertIn(node.module.split(".")[1] + ".py", sources())
