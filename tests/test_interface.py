"""The names and arguments of the interface, as the document tells them."""

import importlib
import inspect
import unittest

FUNCTIONS = {
    "walks": {"end_sex": ["sex", "walk"], "walked": ["table", "sex", "c", "walk"],
              "turn_of": ["table", "sex", "walk"], "parted": ["table", "sex", "one", "other"],
              "parts": ["table"], "shortest": ["table", "sex", "walk"]},
    "rules": {"breach": ["table", "rules"], "first_table": ["rules", "most"]},
    "fits": {"fitting": ["book", "table", "a", "c"], "many_ways": ["book", "table"]},
    "notes": {"shown": ["table"], "read": ["text"]},
}
METHODS = {
    ("tables", "Table"): {"__init__": ["wives", "heirs"], "size": [], "wife_of": ["c"], "husband_of": ["c"],
                          "heir_of": ["c"], "father_of": ["c"], "wives": [], "heirs": []},
    ("book", "Book"): {"__init__": [], "come": ["sex"], "born": ["sex", "father", "mother"],
                       "wed": ["man", "woman"], "size": [], "sex_of": ["a"], "father": ["a"], "mother": ["a"],
                       "partners": ["a"], "children": ["a"], "kin": ["a", "walk"]},
}


def module(name):
    return importlib.import_module("kinturns." + name)


class InterfaceTest(unittest.TestCase):

    def test_functions(self):
        for name, functions in FUNCTIONS.items():
            for function, arguments in functions.items():
                with self.subTest(module=name, function=function):
                    found = inspect.signature(getattr(module(name), function))
                    self.assertEqual(list(found.parameters), arguments)

    def test_classes(self):
        for (name, kind), methods in METHODS.items():
            for method, arguments in methods.items():
                with self.subTest(module=name, kind=kind, method=method):
                    found = inspect.signature(getattr(getattr(module(name), kind), method))
                    self.assertEqual(list(found.parameters), ["self"] + arguments)


if __name__ == "__main__":
    unittest.main()
