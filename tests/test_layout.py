"""What LANGUAGE.md says of sizes, characters and imports, as far as a test tells it easily."""

import ast
import os
import unittest

TOP = os.path.dirname(os.path.dirname(os.path.abspath(__file__)))
PACKAGE = os.path.join(TOP, "waystaken")
LIBRARY = {"heapq", "math", "itertools", "collections"}

COMPREHENSIONS = (ast.ListComp, ast.SetComp, ast.DictComp, ast.GeneratorExp)
CHANGERS = {"append", "clear", "extend", "insert", "pop", "remove", "reverse", "setdefault", "sort", "update"}

# What the interface lists, by the files that define it.
INTERFACE = {
    "errors": ["WayError", "BadText", "BadName", "TooMany", "NotKept", "NothingLeft", "Busy"],
    "ways": ["Way", "Letter", "One", "Nothing", "Row", "Choice", "Again", "Maybe", "Ahead", "Unless", "Call"],
    "reading": ["takes", "far_takes", "ends"],
    "alltexts": ["apart", "beyond", "uncovered", "fit_both", "whole", "whole_apart", "fails", "counted", "lost",
                 "lost_whole"],
    "choices": ["taken_ways", "orders", "enough", "shorter"],
    "seeing": ["Look", "Endless", "look", "settles", "is_look", "is_settled"],
    "books": ["Book"],
    "desks": ["Desk"],
}

# The methods that it lists for a class; operators as the methods that stand for them.
METHODS = {
    "ways": {"Way": ["__eq__", "__add__", "__or__", "__str__", "__len__", "read", "at"]},
    "books": {"Book": ["__getitem__", "__contains__", "__len__", "__iter__", "__eq__", "__str__", "way", "read"]},
    "desks": {"Desk": ["signs", "book", "guards", "undoable", "redoable", "put", "drop", "keep", "free", "undo", "redo",
                       "trial", "tried"]},
}


def files():
    """The names, texts and trees of the files of the package."""
    found = []
    for name in sorted(os.listdir(PACKAGE)):
        if name != "__pycache__":
            with open(os.path.join(PACKAGE, name), encoding="utf-8") as file:
                text = file.read()
            found.append((name, text, ast.parse(text)))
    return found


def plain_names(value):
    """The names, fields and items that a value may be, as it stands there."""
    if isinstance(value, ast.IfExp):
        return plain_names(value.body) + plain_names(value.orelse)
    if isinstance(value, ast.BoolOp):
        return [name for choice in value.values for name in plain_names(choice)]
    is_slice = isinstance(value, ast.Subscript) and isinstance(value.slice, ast.Slice)
    if isinstance(value, (ast.Name, ast.Attribute, ast.Subscript)) and not is_slice:
        return [ast.unparse(value)]
    return []


def walked_names(walk):
    """What a loop walks, if it walks no copy."""
    if isinstance(walk, ast.Call) and isinstance(walk.func, ast.Name):
        if walk.func.id in ("enumerate", "zip", "reversed"):
            return [name for arg in walk.args for name in walked_names(arg)]
    if isinstance(walk, ast.Call) and isinstance(walk.func, ast.Attribute):
        if walk.func.attr in ("items", "keys", "values"):
            return plain_names(walk.func.value)
    return plain_names(walk)


def changed_names(rows):
    """What these rows change in place: pairs of a name and its row."""
    changed = []
    for node in [node for row in rows for node in ast.walk(row)]:
        if isinstance(node, ast.Call) and isinstance(node.func, ast.Attribute) and node.func.attr in CHANGERS:
            changed.append((ast.unparse(node.func.value), node.lineno))
        elif isinstance(node, ast.Subscript) and not isinstance(node.ctx, ast.Load):
            changed.append((ast.unparse(node.value), node.lineno))
        elif isinstance(node, ast.AugAssign):
            changed.append((ast.unparse(node.target), node.lineno))
    return changed


def same_names(function):
    """For each name of a function that is given another one's value: all names of this value."""
    groups = {}
    for node in ast.walk(function):
        if isinstance(node, ast.Assign):
            names = [name for value in [*node.targets, node.value] for name in plain_names(value)]
            group = set(names).union(*[groups.get(name, set()) for name in names])
            for name in group:
                groups[name] = group
    return groups


def walked_and_changed(tree):
    """The rows that change what a loop around them walks, as far as names tell it."""
    rows = []
    for function in [node for node in ast.walk(tree) if isinstance(node, ast.FunctionDef)]:
        groups = same_names(function)
        loops = [(node.iter, node.body) for node in ast.walk(function) if isinstance(node, ast.For)]
        for node in ast.walk(function):
            if isinstance(node, COMPREHENSIONS):
                loops.extend([(part.iter, [node]) for part in node.generators])
        for walk, body in loops:
            walked = set().union(*[groups.get(name, {name}) for name in walked_names(walk)])
            rows.extend([row for name, row in changed_names(body) if name in walked])
    return sorted(set(rows))


class LayoutTest(unittest.TestCase):
    def test_files(self):
        names = [name for name, _, _ in files()]
        self.assertIn("__init__.py", names)
        for name in names:
            self.assertRegex(name, r"^[a-z_]+\.py$")

    def test_sizes(self):
        for name, text, tree in files():
            self.assertLessEqual(len(text.split("\n")), 399, name)
            for row in text.split("\n"):
                self.assertLessEqual(len(row), 120, (name, row))
            for node in ast.walk(tree):
                if isinstance(node, ast.FunctionDef):
                    self.assertLessEqual(node.end_lineno - node.lineno + 1, 40, (name, node.name))

    def test_characters(self):
        for name, text, _ in files():
            self.assertEqual([sign for sign in text if sign != "\n" and not " " <= sign <= "~"], [], name)

    def test_imports(self):
        told = {name[:-3] for name, _, _ in files()}
        for name, _, tree in files():
            for node in ast.walk(tree):
                self.assertNotIsInstance(node, ast.Import, name)
                if isinstance(node, ast.ImportFrom) and node.module not in LIBRARY:
                    package, _, module = node.module.partition(".")
                    self.assertEqual(package, "waystaken", name)
                    self.assertIn(module, told, name)

    def test_no_imports_in_a_ring(self):
        imports = {}
        for name, _, tree in files():
            imports["waystaken." + name[:-3]] = {
                node.module for node in tree.body if isinstance(node, ast.ImportFrom)}
        while imports:
            free = [name for name in imports if not imports[name] & set(imports)]
            self.assertTrue(free, imports)
            for name in free:
                del imports[name]

    def test_loops_do_not_change_what_they_walk(self):
        for name, _, tree in files():
            self.assertEqual(walked_and_changed(tree), [], name)

    def test_how_loops_that_change_what_they_walk_are_told(self):
        rows = [
            ("for x in xs:", "xs.append(x)", True),
            ("for x in xs:", "ys.append(x)", True),
            ("for x in list(xs):", "ys.append(x)", False),
            ("for x in xs[:]:", "xs.append(x)", False),
            ("for x in xs:", "zs.append(x)", False),
            ("for k, x in enumerate(xs):", "xs[k] = 0", True),
            ("for k, x in xs.items():", "del ys[k]", True),
            ("for k, x in list(xs.items()):", "ys[k] = x", False),
            ("for x in zs or xs:", "xs += [x]", True),
            ("for x in box.xs:", "box.xs.pop()", True),
            ("for x in zs:", "[xs.append(y) for y in xs]", True),
        ]
        for head, change, told in rows:
            text = f"def f(xs, zs, box):\n    {head}\n        {change}\n    xs = ys\n"
            self.assertEqual(walked_and_changed(ast.parse(text)), [3] if told else [], (head, change))

    def test_defined_where_the_interface_lists_it(self):
        trees = {name[:-3]: tree for name, _, tree in files()}
        for module, names in INTERFACE.items():
            defined = [node.name for node in trees[module].body if isinstance(node, (ast.FunctionDef, ast.ClassDef))]
            for name in names:
                self.assertIn(name, defined)

    def test_methods_stand_in_their_class_itself(self):
        trees = {name[:-3]: tree for name, _, tree in files()}
        for module, classes in METHODS.items():
            for node in trees[module].body:
                if isinstance(node, ast.ClassDef) and node.name in classes:
                    defined = [part.name for part in node.body if isinstance(part, ast.FunctionDef)]
                    for name in classes[node.name]:
                        self.assertIn(name, defined)


if __name__ == "__main__":
    unittest.main()
