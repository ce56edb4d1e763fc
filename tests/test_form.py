"""The form of the package: its folder, its characters and its sizes."""

import ast
import pathlib
import unittest

PACKAGE = pathlib.Path(__file__).resolve().parent.parent / "wordhulls"
LIBRARY = {"heapq", "math", "itertools", "collections"}
INTERFACE = {
    "errors": [
        "WordError", "InvalidWord", "InvalidNumber", "InvalidText", "InvalidReading", "NotOneWay",
        "NotApart", "NothingToUndo", "TooMany", "Unreadable",
    ],
    "stocks": ["Stock", "joined", "with_word", "without_word"],
    "readings": ["count_readings", "nth_reading", "reading_index", "is_text"],
    "oneway": ["rests", "is_one_way", "two_readings", "agree_most", "endless_rows", "are_endless"],
    "cuts": ["cuts", "are_cuts", "after_cuts"],
    "hulls": ["free_hull", "left_hull", "right_hull", "both_hull", "base", "lies_within"],
    "counts": ["count_texts", "nth_text", "text_index"],
    "commons": ["count_common", "nth_common", "count_base", "nth_base", "first_common"],
    "loops": ["longest_base", "base_loop", "is_base_loop"],
    "rooms": ["room", "is_full", "filling", "lost_word", "is_part"],
    "roots": ["root", "commute", "powers_of_one"],
    "shelves": ["Shelf", "SmallShelf"],
    "texts": ["show_stock", "show_reading"],
    "readtexts": ["read_stock"],
}


def files():
    return sorted(PACKAGE.glob("*.py"))


class FormTest(unittest.TestCase):
    def test_the_folder_holds_only_its_files(self):
        others = [
            path.name
            for path in PACKAGE.iterdir()
            if path.suffix != ".py" and path.name != "__pycache__"
        ]
        self.assertEqual(others, [])
        self.assertTrue((PACKAGE / "__init__.py").is_file())

    def test_characters_and_lines(self):
        for path in files():
            text = path.read_bytes().decode("ascii")
            others = [sign for sign in text if sign != "\n" and not " " <= sign <= "~"]
            self.assertEqual(others, [], path.name)
            lines = text.splitlines()
            self.assertLess(len(lines), 400, path.name)
            self.assertEqual([line for line in lines if len(line) > 120], [], path.name)

    def test_sizes_of_functions(self):
        for path in files():
            for node in ast.walk(ast.parse(path.read_text(encoding="ascii"))):
                if isinstance(node, ast.FunctionDef):
                    self.assertLessEqual(node.end_lineno - node.lineno + 1, 40, node.name)

    def test_imports(self):
        for path in files():
            for node in ast.walk(ast.parse(path.read_text(encoding="ascii"))):
                self.assertNotIsInstance(node, ast.Import, path.name)
                if isinstance(node, ast.ImportFrom):
                    self.assertEqual(node.level, 0, path.name)
                    top = node.module.split(".")[0]
                    self.assertIn(top, LIBRARY | {"wordhulls", "__future__"}, path.name)

    def test_the_interface_stands_in_its_files(self):
        for name, told in INTERFACE.items():
            tree = ast.parse((PACKAGE / (name + ".py")).read_text(encoding="ascii"))
            found = [
                node.name
                for node in tree.body
                if isinstance(node, (ast.FunctionDef, ast.ClassDef))
            ]
            for wanted in told:
                self.assertIn(wanted, found, name)


if __name__ == "__main__":
    unittest.main()
