"""The interface that the document lists: names, where they are defined, and what the arguments are called."""

import importlib
import inspect
import unittest
from pathlib import Path

from promisedesk.desks import Desk, Stream

ROOT = Path(__file__).resolve().parent.parent

FUNCTIONS = {
    "desks": {"only": "desk agents", "longer": "desk more"},
    "scenes": {"is_scene": "desk stream value", "come": "desk stream scene arc", "deals": "desk stream moment",
               "dealt": "desk stream moment deal"},
    "keeping": {"keep": "desk stream", "rounds": "desk stream"},
    "checking": {"book_holds": "desk stream book", "paper_holds": "desk stream paper", "sets_hold": "desk stream value"},
    "ahead": {"scenes_behind": "desk stream course", "knowing": "desk stream"},
    "least": {"least_more": "desk stream", "fewest_agents": "desk stream"},
    "ranks": {"deal_by": "desk stream ranking moment", "runs": "desk stream ranking", "idle_rows": "desk stream ranking"},
    "texts": {"printed": "value", "parse": "text"},
}

CLASSES = {
    "errors": {"DeskError": None, "BadValue": "at", "BadKind": "at", "BadState": "at", "BadSyntax": "at",
               "TooMany": "word"},
    "desks": {"Desk": "agents kinds", "Stream": "states"},
    "console": {"Console": ""},
}

# What a class has in itself, by its name.
METHODS = {"Desk": ("agents", "kinds", "__eq__"), "Stream": ("states", "__len__", "__eq__"),
           "Console": ("run", "log", "replayed")}


def module(name):
    return importlib.import_module(f"promisedesk.{name}")


def words_of(made):
    return list(inspect.signature(made).parameters)


class InterfaceTest(unittest.TestCase):

    def test_functions(self):
        for name, functions in FUNCTIONS.items():
            for word, told in functions.items():
                made = getattr(module(name), word)
                self.assertTrue(inspect.isfunction(made), word)
                self.assertEqual(made.__module__, f"promisedesk.{name}")
                self.assertEqual(words_of(made), told.split())

    def test_classes(self):
        for name, classes in CLASSES.items():
            for word, told in classes.items():
                made = getattr(module(name), word)
                self.assertTrue(inspect.isclass(made), word)
                self.assertEqual(made.__module__, f"promisedesk.{name}")
                if told is not None:
                    self.assertEqual(words_of(made), told.split())
                for one in METHODS.get(word, ()):
                    self.assertIn(one, vars(made), word)

    def test_methods(self):
        made = module("console").Console
        self.assertEqual(words_of(made.run), ["self", "command"])
        self.assertEqual(words_of(made.log), ["self"])
        self.assertEqual(words_of(made.replayed), ["log"])

    def test_one_folder(self):
        self.assertTrue((ROOT / "promisedesk" / "__init__.py").is_file())
        found = [path for path in (ROOT / "promisedesk").iterdir() if path.name != "__pycache__"]
        self.assertTrue(all(path.suffix == ".py" for path in found))

    def test_desks_and_streams_beside_others(self):
        console = module("console").Console()
        desk, stream = Desk(1, ((1, 1, (), (), False),)), Stream(((((), 0),),))
        for other in (console, desk.kinds, stream.states, None):
            self.assertFalse(desk == other)
            self.assertFalse(stream == other)
        self.assertFalse(desk == stream)


if __name__ == "__main__":
    unittest.main()
