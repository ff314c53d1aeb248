"""What LANGUAGE.md says of sizes, characters and imports, as far as a test tells it easily."""

import ast
import os
import unittest

TOP = os.path.dirname(os.path.dirname(os.path.abspath(__file__)))
PACKAGE = os.path.join(TOP, "waystaken")
LIBRARY = {"heapq", "math", "itertools", "collections"}

# What the interface lists, by the files that define it.
INTERFACE = {
    "errors": ["WayError", "BadText", "BadName", "TooMany", "NotKept", "NothingLeft", "Busy"],
    "ways": ["Way", "Letter", "One", "Nothing", "Row", "Choice", "Again", "Maybe", "Ahead", "Unless", "Call"],
    "reading": ["takes", "far_takes", "ends"],
    "alltexts": ["apart", "beyond", "uncovered", "fit_both", "whole", "whole_apart", "fails", "counted", "lost",
                 "lost_whole"],
    "choices": ["taken_ways", "orders", "enough", "shorter"],
    "seeing": ["Look", "Endless", "look", "settles", "is_look", "is_settled"],
    "books": ["Book"],
    "desks": ["Desk"],
}

# The methods that it lists for a class; operators as the methods that stand for them.
METHODS = {
    "ways": {"Way": ["__eq__", "__add__", "__or__", "__str__", "__len__", "read", "at"]},
    "books": {"Book": ["__getitem__", "__contains__", "__len__", "__iter__", "__eq__", "__str__", "way", "read"]},
    "desks": {"Desk": ["signs", "book", "guards", "undoable", "redoable", "put", "drop", "keep", "free", "undo", "redo",
                       "trial", "tried"]},
}


def files():
    """The names, texts and trees of the files of the package."""
    found = []
    for name in sorted(os.listdir(PACKAGE)):
        if name != "__pycache__":
            with open(os.path.join(PACKAGE, name), encoding="utf-8") as file:
                text = file.read()
            found.append((name, text, ast.parse(text)))
    return found


class LayoutTest(unittest.TestCase):
    def test_files(self):
        names = [name for name, _, _ in files()]
        self.assertIn("__init__.py", names)
        for name in names:
            self.assertRegex(name, r"^[a-z_]+\.py$")

    def test_sizes(self):
        for name, text, tree in files():
            self.assertLessEqual(len(text.split("\n")), 399, name)
            for row in text.split("\n"):
                self.assertLessEqual(len(row), 120, (name, row))
            for node in ast.walk(tree):
                if isinstance(node, ast.FunctionDef):
                    self.assertLessEqual(node.end_lineno - node.lineno + 1, 40, (name, node.name))

    def test_characters(self):
        for name, text, _ in files():
            self.assertEqual([sign for sign in text if sign != "\n" and not " " <= sign <= "~"], [], name)

    def test_imports(self):
        told = {name[:-3] for name, _, _ in files()}
        for name, _, tree in files():
            for node in ast.walk(tree):
                self.assertNotIsInstance(node, ast.Import, name)
                if isinstance(node, ast.ImportFrom) and node.module not in LIBRARY:
                    package, _, module = node.module.partition(".")
                    self.assertEqual(package, "waystaken", name)
                    self.assertIn(module, told, name)

    def test_no_imports_in_a_ring(self):
        imports = {}
        for name, _, tree in files():
            imports["waystaken." + name[:-3]] = {
                node.module for node in tree.body if isinstance(node, ast.ImportFrom)}
        while imports:
            free = [name for name in imports if not imports[name] & set(imports)]
            self.assertTrue(free, imports)
            for name in free:
                del imports[name]

    def test_defined_where_the_interface_lists_it(self):
        trees = {name[:-3]: tree for name, _, tree in files()}
        for module, names in INTERFACE.items():
            defined = [node.name for node in trees[module].body if isinstance(node, (ast.FunctionDef, ast.ClassDef))]
            for name in names:
                self.assertIn(name, defined)

    def test_methods_stand_in_their_class_itself(self):
        trees = {name[:-3]: tree for name, _, tree in files()}
        for module, classes in METHODS.items():
            for node in trees[module].body:
                if isinstance(node, ast.ClassDef) and node.name in classes:
                    defined = [part.name for part in node.body if isinstance(part, ast.FunctionDef)]
                    for name in classes[node.name]:
                        self.assertIn(name, defined)


if __name__ == "__main__":
    unittest.main()
