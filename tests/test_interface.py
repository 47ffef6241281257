"""The interface: each name is defined in its own file and takes its parameters by the names of the document."""

import ast
import inspect
import os
import unittest
from importlib import import_module

import meetbooks

FOLDER = os.path.dirname(os.path.abspath(meetbooks.__file__))

FUNCTIONS = {
    "weavings": {
        "standing_of": "hall weaving", "next_kinds": "hall weaving", "refusal": "hall weaving kind",
        "lot_of": "hall kind", "are_strangers": "hall one other"},
}
CLASSES = {"halls": {"Hall": "text"}}
METHODS = {"halls": {"Hall": ["__init__", "__len__", "__contains__", "__eq__"]}}


def tree_of(module):
    with open(os.path.join(FOLDER, module + ".py"), encoding="utf-8") as file:
        return ast.parse(file.read())


def parameters_of(made):
    return " ".join(inspect.signature(made).parameters)


class InterfaceTest(unittest.TestCase):
    def test_functions_are_defined_in_their_files(self):
        for module, functions in FUNCTIONS.items():
            defined = {node.name for node in tree_of(module).body if isinstance(node, ast.FunctionDef)}
            self.assertEqual(set(functions) - defined, set(), module)

    def test_classes_are_defined_in_their_files(self):
        for module, classes in CLASSES.items():
            defined = {node.name for node in tree_of(module).body if isinstance(node, ast.ClassDef)}
            self.assertEqual(set(classes) - defined, set(), module)

    def test_methods_stand_in_the_class_itself(self):
        for module, classes in METHODS.items():
            for node in tree_of(module).body:
                if isinstance(node, ast.ClassDef) and node.name in classes:
                    defined = {part.name for part in node.body if isinstance(part, ast.FunctionDef)}
                    self.assertEqual(set(classes[node.name]) - defined, set(), node.name)

    def test_parameters_have_the_names_of_the_document(self):
        for table in (FUNCTIONS, CLASSES):
            for module, names in table.items():
                for name, parameters in names.items():
                    made = getattr(import_module("meetbooks." + module), name)
                    self.assertEqual(parameters_of(made), parameters, name)

    def test_the_package_is_one_folder_of_python_files(self):
        files = [name for name in os.listdir(FOLDER) if name != "__pycache__"]
        self.assertIn("__init__.py", files)
        self.assertEqual([name for name in files if not name.endswith(".py")], [])


if __name__ == "__main__":
    unittest.main()
