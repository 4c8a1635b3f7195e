"""What can be seen of the package without calling it: its files, their imports, where things are defined."""

import ast
import unittest
from pathlib import Path

PACKAGE = Path(__file__).resolve().parent.parent / "onejumps"

INTERFACE = {
    "errors": [
        "JumpError", "InvalidOrder", "InvalidPlace", "InvalidJump", "InvalidBar", "InvalidSaying",
        "InvalidNumber", "InvalidPair", "InvalidWalk", "NotMeant", "NotTame", "InvalidKind", "InvalidThing",
        "InvalidWeb", "InvalidPrices", "HasRound", "InvalidName", "UnknownName", "NothingToUndo",
        "Unreadable", "Unorderly",
    ],
    "orders": ["is_order", "taken_down", "put", "place_of_greatest", "risen", "orders", "turned"],
    "jumps": ["jumped", "jumps", "between", "undone", "least_jump"],
    "families": ["is_bar", "is_saying", "shows", "means", "members", "is_steady", "children", "count"],
    "tame": ["is_tame", "failing", "least_bars", "tame_for_ever"],
    "walks": ["walk", "steps", "by_rule", "rule_goes_through", "closes"],
    "places": ["nth", "place_of", "next_of", "last_of", "next_jump", "stretch"],
    "judges": ["is_walk", "first_fault", "is_small"],
    "kinds": ["is_thing", "family", "order_of", "thing_of", "things", "is_step", "how_many"],
    "webs": ["is_web", "corners", "directions", "exchanged", "round_of", "how_many_directions"],
    "hands": ["stretches", "hand_walk", "whose"],
    "prices": ["cost", "walk_cost", "anew", "saved", "dearest"],
    "texts": ["show_order", "show_jump", "show_bar", "show_saying", "show_thing"],
    "readers": ["read_order", "read_jump", "read_bar", "read_saying", "read_thing"],
    "consoles": ["Console"],
}

METHODS = {("consoles", "Console"): ["keep", "drop", "undo", "saying", "names", "order"]}

LIBRARY = ["itertools", "math"]


def files():
    return sorted(PACKAGE.rglob("*.py"))


def tree_of(file):
    return ast.parse(file.read_text(encoding="utf-8"))


def imports_of(file):
    """The modules that a file imports from."""
    return [node.module for node in ast.walk(tree_of(file)) if isinstance(node, ast.ImportFrom)]


class TestLayout(unittest.TestCase):
    def test_the_folder_holds_python_files_alone(self):
        others = [path for path in PACKAGE.rglob("*") if path.suffix != ".py" and "__pycache__" not in str(path)]
        self.assertEqual(others, [])
        self.assertTrue((PACKAGE / "__init__.py").exists())

    def test_the_interface_is_defined_where_it_is_listed(self):
        for name, listed in INTERFACE.items():
            body = tree_of(PACKAGE / f"{name}.py").body
            defined = [node.name for node in body if isinstance(node, (ast.FunctionDef, ast.ClassDef))]
            self.assertEqual([word for word in listed if word not in defined], [], name)

    def test_methods_are_defined_in_the_class_itself(self):
        for (name, kind), listed in METHODS.items():
            found = [node for node in tree_of(PACKAGE / f"{name}.py").body if getattr(node, "name", None) == kind]
            defined = [node.name for node in found[0].body if isinstance(node, ast.FunctionDef)]
            self.assertEqual([word for word in listed if word not in defined], [], kind)

    def test_imports_are_of_the_package_and_by_full_names(self):
        for file in files():
            self.assertFalse([node for node in ast.walk(tree_of(file)) if isinstance(node, ast.Import)], file)
            for module in imports_of(file):
                self.assertTrue(module in LIBRARY or module.startswith("onejumps."), (file, module))

    def test_no_files_import_in_a_circle(self):
        left = {f"onejumps.{file.stem}": imports_of(file) for file in files()}
        while left:
            free = [name for name, wanted in left.items() if not any(other in left for other in wanted)]
            self.assertTrue(free, left)
            left = {name: wanted for name, wanted in left.items() if name not in free}

    def test_sizes_and_signs(self):
        for file in files():
            text = file.read_text(encoding="utf-8")
            lines = text.split("\n")
            self.assertLess(len(lines), 400, file)
            self.assertLessEqual(max(len(line) for line in lines), 120, file)
            self.assertEqual({sign for sign in text if not (" " <= sign <= "~" or sign == "\n")}, set(), file)
            for node in ast.walk(tree_of(file)):
                if isinstance(node, ast.FunctionDef):
                    self.assertLessEqual(node.end_lineno - node.lineno + 1, 40, (file, node.name))


if __name__ == "__main__":
    unittest.main()
