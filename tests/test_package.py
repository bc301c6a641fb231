import ast
import importlib
import inspect
import os
import unittest

import owedrebuilds
from owedrebuilds.books import Book
from owedrebuilds.desks import Desk, HookedRow, owed_by
from owedrebuilds.fewest import full_book
from owedrebuilds.scenes import meetings, scenes
from owedrebuilds.stores import Row
from owedrebuilds.ways import Way

FOLDER = os.path.dirname(owedrebuilds.__file__)

# For each module its classes, and for each class its methods with their parameters.
INTERFACE = {
    "schemas": {
        "Schema": {
            "__init__": ["text"], "columns": ["table"], "kind": ["table", "column"],
            "target": ["table", "column"], "rule": ["table", "column"], "links_to": ["table"],
            "__len__": None, "__contains__": None, "__str__": None, "__eq__": None,
        },
    },
    "stores": {
        "Store": {
            "__init__": ["schema", "rows"], "rows": [], "row_keys": ["table"],
            "linked": ["table", "link", "key"], "cell_of": ["table", "key", "column"],
            "duplicate": [], "changes": ["deed"], "apply": ["deed"],
            "put": ["table", "key", "cells"], "change": ["table", "key", "column", "cell"],
            "remove": ["table", "key"], "__len__": None, "__contains__": None,
            "__eq__": None, "__getitem__": None, "__iter__": None,
        },
        "Row": {
            "__init__": ["store", "table", "key"], "cells": None, "step": ["link"],
            "__getitem__": None, "__setitem__": None, "__eq__": None, "__iter__": None,
        },
    },
    "ways": {
        "Way": {
            "__init__": ["schema", "text"], "of": None, "is_straight": None,
            "__call__": ["store", "key"], "trails": ["store", "key"],
            "first_trail": ["store", "key", "end"], "is_trail": ["store", "thing"],
            "asking": ["position", "flags"], "beginning": ["many"], "__rshift__": None,
            "__invert__": None, "__contains__": None, "__eq__": None, "__len__": None,
            "__str__": None,
        },
    },
    "documents": {
        "Document": {
            "__init__": ["name", "reads"], "__call__": ["store", "key"], "count": ["store", "key"],
            "__len__": None, "__contains__": None,
        },
    },
    "hooks": {
        "Look": {},
        "Hook": {
            "__init__": ["event", "look", "way", "document"], "__call__": ["store", "key"],
            "answers": ["change"], "looking": ["look"], "__eq__": None, "__str__": None,
        },
    },
}

# For each module its functions with their parameters.
FUNCTIONS = {
    "ways": {"least_rows": ["way"], "image": ["narrow", "wide"]},
    "desks": {"owed_by": ["book", "store", "deed"]},
    "scenes": {"scenes": ["book"], "cover": ["scene", "hook"], "meetings": ["hook"]},
    "judging": {"judge": ["book"]},
    "looker": {"is_certificate": ["book", "thing"]},
    "fewest": {
        "full_book": ["documents", "bulk"], "least_sets": ["book"], "looks": ["book"],
        "may_ask": ["book", "number"], "waste": ["hook", "document"],
    },
    "comparing": {"compare": ["one", "other"], "is_parting": ["one", "other", "thing"]},
}


def texts():
    """The text of each file of the package, by its name."""
    found = {}
    for name in sorted(os.listdir(FOLDER)):
        if name != "__pycache__":
            with open(os.path.join(FOLDER, name), encoding="ascii") as file:
                found[name] = file.read()
    return found


def nodes(kind):
    """All (file, node) of a kind in the package."""
    return [
        (name, node)
        for name, text in texts().items()
        for node in ast.walk(ast.parse(text))
        if isinstance(node, kind)
    ]


class Interface(unittest.TestCase):
    def test_each_class_is_defined_in_its_file(self):
        for module, classes in INTERFACE.items():
            for name in classes:
                found = getattr(importlib.import_module("owedrebuilds." + module), name)
                self.assertEqual(found.__module__, "owedrebuilds." + module)

    def test_each_method_is_defined_in_its_class(self):
        for module, classes in INTERFACE.items():
            for name, methods in classes.items():
                made = getattr(importlib.import_module("owedrebuilds." + module), name)
                for method, wanted in methods.items():
                    self.assertIn(method, vars(made), name)
                    if wanted is not None:
                        found = list(inspect.signature(vars(made)[method]).parameters)
                        self.assertEqual(found, ["self"] + wanted, method)

    def test_each_function_is_defined_in_its_file(self):
        for module, functions in FUNCTIONS.items():
            for name, wanted in functions.items():
                found = getattr(importlib.import_module("owedrebuilds." + module), name)
                self.assertEqual(found.__module__, "owedrebuilds." + module)
                self.assertEqual(list(inspect.signature(found).parameters), wanted)

    def test_properties(self):
        self.assertIsInstance(vars(Row)["cells"], property)
        self.assertIsInstance(vars(HookedRow)["cells"], property)
        self.assertIsInstance(vars(Way)["is_straight"], property)

    def test_what_is_passed_by_name_only(self):
        for action, names in (
            (Book.__init__, ["bulk"]), (Desk.__init__, ["most"]), (Desk.do, ["at_once"]), (full_book, ["bulk"]),
        ):
            found = inspect.signature(action).parameters.values()
            self.assertEqual([one.name for one in found if one.kind == one.KEYWORD_ONLY], names)

    def test_answers_that_are_generators(self):
        for action in (Way.trails, owed_by, scenes, meetings):
            self.assertTrue(inspect.isgeneratorfunction(action))

    def test_read_is_a_static_method(self):
        self.assertIsInstance(vars(Book)["read"], staticmethod)
        self.assertEqual(list(inspect.signature(Book.read).parameters), ["text"])

    def test_of_is_a_class_method(self):
        self.assertIsInstance(vars(Way)["of"], classmethod)
        self.assertEqual(list(inspect.signature(Way.of).parameters), ["schema", "words"])


class Files(unittest.TestCase):
    def test_the_folder_holds_only_python(self):
        for name in texts():
            self.assertRegex(name, r"^[a-z_]+\.py$")

    def test_sizes(self):
        for name, text in texts().items():
            lines = text.split("\n")
            self.assertLessEqual(len(lines), 399, name)
            for line in lines:
                self.assertLessEqual(len(line), 120, name)
        for name, node in nodes(ast.FunctionDef):
            self.assertLessEqual(node.end_lineno - node.lineno + 1, 40, (name, node.name))

    def test_characters(self):
        for name, text in texts().items():
            self.assertTrue(all(" " <= letter <= "~" or letter == "\n" for letter in text), name)
        for name, node in nodes(ast.Constant):
            if isinstance(node.value, str):
                self.assertNotIn("%", node.value, name)

    def test_imports(self):
        self.assertEqual(nodes(ast.Import), [])
        for name, node in nodes(ast.ImportFrom):
            self.assertTrue(node.module.startswith("owedrebuilds."), name)
            self.assertEqual(node.level, 0, name)
            for part in node.names:
                self.assertIsNone(part.asname, name)


if __name__ == "__main__":
    unittest.main()
