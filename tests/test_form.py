"""The interface as DOC.md lists it, and the plainest of the rules of LANGUAGE.md."""

import ast
import importlib
import inspect
import pathlib
import unittest

PACKAGE = pathlib.Path(__file__).resolve().parent.parent / "markersplice"

# File, then function or class and method, each with the names of its parameters.
INTERFACE = {
    "rows": {
        "is_integer": "value low high", "is_name": "value", "is_piece": "value", "is_marker": "value",
        "is_row": "value", "flip_piece": "piece", "flip_marker": "marker", "flip_row": "row",
        "without_markers": "row numbers", "clean_row": "row",
    },
    "strips": {
        "Strip.__init__": "self row", "Strip.row": "self", "Strip.names": "self", "Strip.pieces": "self",
        "Strip.places": "self name", "Strip.orientations": "self name", "Strip.is_direct": "self name",
        "Strip.crosses": "self one other", "Strip.names_between": "self name", "Strip.flipped": "self",
        "Strip.__len__": "self", "Strip.__eq__": "self other", "Strip.__str__": "self",
        "Strip.__repr__": "self",
        "Ring.__init__": "self row", "Ring.row": "self", "Ring.names": "self", "Ring.letter_count": "self",
        "Ring.__len__": "self", "Ring.__eq__": "self other", "Ring.__str__": "self", "Ring.__repr__": "self",
    },
    "texts": {
        "row_text": "row", "ring_text": "row", "parse_row": "text", "parse_strip": "text", "parse_ring": "text",
        "complete_strip": "text", "parts_text": "row rings", "parse_parts": "text",
    },
    "operations": {
        "is_op": "value", "op_names": "op", "blocker": "strip op", "is_blocker": "strip op value",
        "available_ops": "strip", "apply_op": "strip op", "apply_all": "strip ops",
        "applicable_count": "strip ops", "removes_all": "strip value",
    },
    "crossings": {
        "CrossingTable.__init__": "self names rows", "CrossingTable.names": "self", "CrossingTable.rows": "self",
        "CrossingTable.entry": "self one other", "CrossingTable.neighbors": "self name",
        "CrossingTable.components": "self", "CrossingTable.subtable": "self names",
        "CrossingTable.__len__": "self", "CrossingTable.__eq__": "self other", "CrossingTable.__str__": "self",
        "CrossingTable.__repr__": "self", "CrossingTable.rank": "self", "CrossingTable.rank_certificate": "self",
        "CrossingTable.is_rank_certificate": "self value", "CrossingTable.after": "self op",
        "crossing_table": "strip", "ring_count_by_rank": "strip names",
    },
    "joining": {
        "JoinedStrip.__init__": "self strip names", "JoinedStrip.strip": "self", "JoinedStrip.names": "self",
        "JoinedStrip.__len__": "self", "JoinedStrip.__eq__": "self other", "JoinedStrip.__str__": "self",
        "JoinedStrip.__repr__": "self", "JoinedStrip.path": "self part", "JoinedStrip.part_of": "self piece",
        "JoinedStrip.row": "self", "JoinedStrip.rings": "self", "JoinedStrip.remaining": "self",
        "JoinedStrip.edge": "self name", "JoinedStrip.with_name": "self name",
        "JoinedStrip.without_name": "self name", "join_all": "strip", "edges": "strip",
        "is_result": "strip names value",
    },
}


def package_files():
    return sorted(PACKAGE.rglob("*.py"))


def parsed(path):
    return ast.parse(path.read_text(encoding="utf-8"))


def defined(tree):
    """The functions of a file and the methods of its classes, with the names of their parameters."""
    found = {}
    for node in tree.body:
        if isinstance(node, ast.FunctionDef):
            found[node.name] = node
        if isinstance(node, ast.ClassDef):
            for inner in node.body:
                if isinstance(inner, ast.FunctionDef):
                    found[node.name + "." + inner.name] = inner
    return {name: " ".join(arg.arg for arg in node.args.args) for name, node in found.items()}


def is_operator(name):
    """Whether a method is used by a sign or a builtin, so that its parameters are free."""
    return name.endswith("__") and not name.endswith("__init__")


class Interface(unittest.TestCase):
    def test_each_name_is_defined_in_its_file_with_its_parameters(self):
        for file in INTERFACE:
            found = defined(parsed(PACKAGE / (file + ".py")))
            for name, parameters in INTERFACE[file].items():
                self.assertIn(name, found, file)
                if not is_operator(name):
                    self.assertEqual(found[name], parameters, f"{file}: {name}")

    def test_each_name_can_be_imported(self):
        for file in INTERFACE:
            module = importlib.import_module("markersplice." + file)
            for name, parameters in INTERFACE[file].items():
                value = module
                for part in name.split("."):
                    value = getattr(value, part)
                if not is_operator(name):
                    self.assertEqual(" ".join(inspect.signature(value).parameters), parameters)


class Rules(unittest.TestCase):
    def test_the_folder_holds_only_python_files(self):
        for path in PACKAGE.rglob("*"):
            if path.is_file() and path.parent.name != "__pycache__":
                self.assertEqual(path.suffix, ".py", path)
        self.assertTrue((PACKAGE / "__init__.py").is_file())

    def test_sizes_and_signs(self):
        for path in package_files():
            lines = path.read_text(encoding="utf-8").split("\n")
            self.assertLessEqual(len(lines) - 1, 399, path)
            for line in lines:
                self.assertLessEqual(len(line), 120, path)
                self.assertTrue(all(" " <= sign <= "~" for sign in line), (path, line))

    def test_functions_have_at_most_forty_lines(self):
        for path in package_files():
            for node in ast.walk(parsed(path)):
                if isinstance(node, ast.FunctionDef):
                    self.assertLessEqual(node.end_lineno - node.lineno + 1, 40, (path, node.name))

    def test_a_module_level_holds_only_definitions(self):
        allowed = (ast.ImportFrom, ast.FunctionDef, ast.ClassDef, ast.Assign)
        for path in package_files():
            for index, node in enumerate(parsed(path).body):
                docstring = (index == 0 and isinstance(node, ast.Expr) and isinstance(node.value, ast.Constant)
                             and isinstance(node.value.value, str))
                self.assertTrue(docstring or isinstance(node, allowed), (path, node.lineno))

    def test_imports_name_the_file_that_defines(self):
        for path in package_files():
            for node in ast.walk(parsed(path)):
                self.assertNotIsInstance(node, ast.Import, path)
                if isinstance(node, ast.ImportFrom) and node.module.startswith("markersplice"):
                    source = PACKAGE / (node.module.split(".")[1] + ".py")
                    here = {getattr(item, "name", None) for item in parsed(source).body}
                    here |= {item.targets[0].id for item in parsed(source).body if isinstance(item, ast.Assign)}
                    for alias in node.names:
                        self.assertIn(alias.name, here, path)
                        self.assertIsNone(alias.asname, path)


if __name__ == "__main__":
    unittest.main()
