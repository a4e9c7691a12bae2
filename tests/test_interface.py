import importlib
import inspect
import unittest

# The arguments of each function, as the document's interface names them.
FUNCTIONS = {
    "headroad.heads": {
        "begins": ["head", "address"],
        "number_of": ["text"],
        "address_of": ["number", "size"],
        "span_of": ["head", "size"],
        "heads_of": ["low", "high", "size"],
    },
    "headroad.ways": {
        "head_for": ["rows", "address"],
        "way_for": ["rows", "address"],
        "spans": ["rows", "size"],
        "parting": ["ones", "others", "size"],
    },
}


class Interface(unittest.TestCase):
    def test_names_and_arguments(self):
        for module_name, functions in FUNCTIONS.items():
            module = importlib.import_module(module_name)
            for name, arguments in functions.items():
                with self.subTest(module=module_name, name=name):
                    function = getattr(module, name)
                    self.assertEqual(list(inspect.signature(function).parameters), arguments)
                    self.assertEqual(function.__module__, module_name)

    def test_arguments_can_be_named(self):
        ways = importlib.import_module("headroad.ways")
        self.assertEqual(ways.spans(rows=[], size=2), [(0, 3, None)])
        self.assertIsNone(ways.parting(ones=[], others=[], size=2))


if __name__ == "__main__":
    unittest.main()
