import importlib
import inspect
import os
import subprocess
import sys
import unittest
from pathlib import Path

# The arguments of each function, as the document's interface names them.
FUNCTIONS = {
    "headroad.heads": {
        "begins": ["head", "address"],
        "number_of": ["text"],
        "address_of": ["number", "size"],
        "span_of": ["head", "size"],
        "heads_of": ["low", "high", "size"],
    },
    "headroad.ways": {
        "head_for": ["rows", "address"],
        "way_for": ["rows", "address"],
        "spans": ["rows", "size"],
        "parting": ["ones", "others", "size"],
    },
    "headroad.thin": {
        "thinned": ["rows"],
    },
    "headroad.turn": {
        "deeds": ["ones", "others"],
        "done": ["rows", "deed"],
        "laid_over": ["ones", "others"],
    },
    "headroad.lines": {
        "shown": ["row"],
        "read": ["line"],
    },
}
BOARD = {
    "put": ["head", "way"],
    "drop": ["head"],
    "rows": [],
    "led": ["address"],
    "by_which": ["address"],
}


class Interface(unittest.TestCase):
    def test_names_and_arguments(self):
        for module_name, functions in FUNCTIONS.items():
            module = importlib.import_module(module_name)
            for name, arguments in functions.items():
                with self.subTest(module=module_name, name=name):
                    function = getattr(module, name)
                    self.assertEqual(list(inspect.signature(function).parameters), arguments)
                    self.assertEqual(function.__module__, module_name)

    def test_arguments_can_be_named(self):
        ways = importlib.import_module("headroad.ways")
        self.assertEqual(ways.spans(rows=[], size=2), [(0, 3, None)])
        self.assertIsNone(ways.parting(ones=[], others=[], size=2))

    def test_the_board(self):
        board_class = importlib.import_module("headroad.board").Board
        self.assertEqual(board_class.__module__, "headroad.board")
        self.assertEqual(list(inspect.signature(board_class).parameters), ["size"])
        for name, arguments in BOARD.items():
            with self.subTest(name=name):
                method = getattr(board_class, name)
                self.assertEqual(list(inspect.signature(method).parameters), ["self"] + arguments)
        self.assertEqual(vars(board_class(size=7))["size"], 7)

    def test_each_module_alone_can_be_imported_first(self):
        root = str(Path(__file__).resolve().parent.parent)
        for name in [*FUNCTIONS, "headroad.board", "headroad.errors"]:
            with self.subTest(name=name):
                command = [sys.executable, "-B", "-c", f"import {name}"]
                ended = subprocess.run(command, cwd=root, env={**os.environ, "PYTHONPATH": root})
                self.assertEqual(ended.returncode, 0)


if __name__ == "__main__":
    unittest.main()
