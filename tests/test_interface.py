"""The interface of DOC.md: what must be there, defined in its own file, with the names of its parameters."""

import ast
import importlib
import inspect
import unittest
from pathlib import Path

PACKAGE = Path(__file__).resolve().parent.parent / "surelevels"

CLASSES = {
    "exacts": {"Exact": {"__init__": "over under", "by": "other", "text": "", "of_text": "text"}},
    "books": {"Book": {"__init__": "start end bottom top levels facts", "frame": "", "levels": "", "facts": "",
                       "names": "", "__len__": "", "__iter__": "", "__eq__": None, "further": "facts",
                       "without": "index", "text": "", "of_text": "text"}},
    "lines": {"Line": {"__init__": "points", "points": "", "__call__": "moment", "__eq__": None, "is_below": "other",
                       "lower": "other", "upper": "other"}},
    "live": {"Gauges": {"__init__": "book", "add": "fact", "undo": "", "book": ""}},
}
FUNCTIONS = {
    "exacts": {"plain": "number"},
    "lines": {"fits": "book lines"},
    "papers": {"lowest": "book", "highest": "book", "is_fit": "book", "paper": "book", "is_paper": "book thing"},
    "asks": {"heights": "book name moment", "moments": "book name height", "within": "book name low high",
             "passed": "book name", "differences": "book one other moment"},
    "gaps": {"greatest_gap": "book one other a b", "surely_equal": "book one other a b", "least_factor": "book"},
    "follow": {"follows": "book fact", "needless": "book"},
}


class Interface(unittest.TestCase):
    def body(self, module):
        return ast.parse((PACKAGE / f"{module}.py").read_text("utf-8")).body

    def parameters(self, thing):
        return [name for name in inspect.signature(thing).parameters if name != "self"]

    def test_classes(self):
        for module, classes in CLASSES.items():
            defined = {node.name: node for node in self.body(module) if isinstance(node, ast.ClassDef)}
            for name, methods in classes.items():
                own = [node.name for node in defined[name].body if isinstance(node, ast.FunctionDef)]
                kind = getattr(importlib.import_module(f"surelevels.{module}"), name)
                for method, wanted in methods.items():
                    self.assertIn(method, own)
                    if wanted is not None:
                        self.assertEqual(self.parameters(getattr(kind, method)), wanted.split(), (name, method))

    def test_functions(self):
        for module, functions in FUNCTIONS.items():
            defined = [node.name for node in self.body(module) if isinstance(node, ast.FunctionDef)]
            for name, wanted in functions.items():
                self.assertIn(name, defined)
                function = getattr(importlib.import_module(f"surelevels.{module}"), name)
                self.assertEqual(self.parameters(function), wanted.split(), name)


if __name__ == "__main__":
    unittest.main()
