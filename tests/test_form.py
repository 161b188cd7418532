"""The interface as DOC.md lists it, and the plainest of the rules of LANGUAGE.md."""

import ast
import builtins
import importlib
import inspect
import pathlib
import unittest

PACKAGE = pathlib.Path(__file__).resolve().parent.parent / "markersplice"

# File, then function or class and method, each with the names of its parameters.
INTERFACE = {
    "rows": {
        "is_integer": "value low high", "is_name": "value", "is_piece": "value", "is_marker": "value",
        "is_row": "value", "flip_piece": "piece", "flip_marker": "marker", "flip_row": "row",
        "without_markers": "row numbers", "clean_row": "row",
    },
    "strips": {
        "Strip.__init__": "self row", "Strip.row": "self", "Strip.names": "self", "Strip.pieces": "self",
        "Strip.places": "self name", "Strip.orientations": "self name", "Strip.is_direct": "self name",
        "Strip.crosses": "self one other", "Strip.names_between": "self name", "Strip.flipped": "self",
        "Strip.__len__": "self", "Strip.__eq__": "self other", "Strip.__str__": "self",
        "Strip.__repr__": "self",
        "Ring.__init__": "self row", "Ring.row": "self", "Ring.names": "self", "Ring.letter_count": "self",
        "Ring.__len__": "self", "Ring.__eq__": "self other", "Ring.__str__": "self", "Ring.__repr__": "self",
    },
    "texts": {
        "row_text": "row", "ring_text": "row", "parse_row": "text", "parse_strip": "text", "parse_ring": "text",
        "complete_strip": "text", "parts_text": "row rings", "parse_parts": "text",
    },
    "operations": {
        "is_op": "value", "op_names": "op", "blocker": "strip op", "is_blocker": "strip op value",
        "available_ops": "strip", "apply_op": "strip op", "apply_all": "strip ops",
        "applicable_count": "strip ops", "removes_all": "strip value",
    },
    "crossings": {
        "CrossingTable.__init__": "self names rows", "CrossingTable.names": "self", "CrossingTable.rows": "self",
        "CrossingTable.entry": "self one other", "CrossingTable.neighbors": "self name",
        "CrossingTable.components": "self", "CrossingTable.subtable": "self names",
        "CrossingTable.__len__": "self", "CrossingTable.__eq__": "self other", "CrossingTable.__str__": "self",
        "CrossingTable.__repr__": "self", "CrossingTable.rank": "self", "CrossingTable.rank_certificate": "self",
        "CrossingTable.is_rank_certificate": "self value", "CrossingTable.after": "self op",
        "crossing_table": "strip", "ring_count_by_rank": "strip names",
    },
    "joining": {
        "JoinedStrip.__init__": "self strip names", "JoinedStrip.strip": "self", "JoinedStrip.names": "self",
        "JoinedStrip.__len__": "self", "JoinedStrip.__eq__": "self other", "JoinedStrip.__str__": "self",
        "JoinedStrip.__repr__": "self", "JoinedStrip.path": "self part", "JoinedStrip.part_of": "self piece",
        "JoinedStrip.row": "self", "JoinedStrip.rings": "self", "JoinedStrip.remaining": "self",
        "JoinedStrip.edge": "self name", "JoinedStrip.with_name": "self name",
        "JoinedStrip.without_name": "self name", "join_all": "strip", "edges": "strip",
        "is_result": "strip names value",
    },
    "removal": {
        "is_removable": "strip names", "ops_for": "strip names", "removes_exactly": "strip names value",
        "is_blocking_ring": "strip names value", "removable_sets": "strip", "sequence_counts": "strip",
        "first_names": "strip", "last_names": "strip", "ops_leaving": "strip one other",
        "ops_via": "strip names more",
    },
    "trees": {
        "can_loop": "strip name", "must_loop": "strip name", "loop_sets": "strip", "loop_set_count": "strip",
        "loop_certificate": "strip names", "is_loop_certificate": "strip names value",
        "can_make_ring": "strip name ring", "ring_certificate": "strip name ring",
        "is_ring_certificate": "strip name ring value",
    },
    "kinds": {
        "suffices": "strip kinds", "kinds_certificate": "strip kinds", "is_kinds_certificate": "strip kinds value",
    },
    "scramble": {
        "scramble": "segments order flips spacers names", "contains": "part piece",
        "insert_loop": "strip name positions * piece upright", "insert_flip": "strip name positions * upright",
        "insert_swap": "strip one other positions * orientations",
    },
    "workspace": {
        "Workspace.__init__": "self users", "Workspace.add_strip": "self strip row",
        "Workspace.lock": "self user strip number", "Workspace.unlock": "self user strip number",
        "Workspace.join": "self user name", "Workspace.unjoin": "self user name", "Workspace.undo": "self",
        "Workspace.perform": "self action", "Workspace.actions": "self", "Workspace.layout": "self",
        "Workspace.__len__": "self", "Workspace.users": "self", "Workspace.strips": "self",
        "Workspace.names": "self", "Workspace.joined": "self", "Workspace.unmatched": "self",
        "Workspace.row_of": "self strip", "Workspace.locks": "self", "Workspace.part_of": "self strip number",
        "Workspace.clone": "self", "Workspace.__eq__": "self other", "Workspace.__str__": "self",
        "Workspace.__repr__": "self",
    },
    "history": {
        "dump_history": "workspace", "load_history": "text", "state_after": "workspace total",
        "can_exchange": "workspace number", "shortest_actions": "workspace",
    },
    "console": {
        "Console.__init__": "self", "Console.run": "self line", "Console.run_all": "self lines",
        "Console.strip": "self", "Console.rings": "self", "Console.workspace": "self", "Console.clone": "self",
        "Console.__len__": "self",
    },
}


def package_files():
    return sorted(PACKAGE.rglob("*.py"))


def parsed(path):
    return ast.parse(path.read_text(encoding="utf-8"))


def defined(tree):
    """The functions of a file and the methods of its classes, with the names of their parameters."""
    found = {}
    for node in tree.body:
        if isinstance(node, ast.FunctionDef):
            found[node.name] = node
        if isinstance(node, ast.ClassDef):
            for inner in node.body:
                if isinstance(inner, ast.FunctionDef):
                    found[node.name + "." + inner.name] = inner
    return {name: parameters_of(node) for name, node in found.items()}


def parameters_of(node):
    """The names of the parameters of a function, those that are passed by keyword behind a star."""
    named = [arg.arg for arg in node.args.kwonlyargs]
    return " ".join([arg.arg for arg in node.args.args] + (["*", *named] if named else []))


def is_operator(name):
    """Whether a method is used by a sign or a builtin, so that its parameters are free."""
    return name.endswith("__") and not name.endswith("__init__")


def top_names(tree):
    """The names of the classes and of the imports of a file."""
    names = {node.name for node in tree.body if isinstance(node, ast.ClassDef)}
    return names | {alias.name for node in tree.body if isinstance(node, ast.ImportFrom) for alias in node.names}


def local_names(tree):
    """The names that the functions of a file give to parameters, variables and nested functions."""
    names = {node.arg for node in ast.walk(tree) if isinstance(node, ast.arg)}
    names |= {node.id for node in ast.walk(tree) if isinstance(node, ast.Name) and isinstance(node.ctx, ast.Store)}
    return names | {node.name for node in ast.walk(tree) if isinstance(node, ast.ExceptHandler) and node.name}


class Interface(unittest.TestCase):
    def test_each_name_is_defined_in_its_file_with_its_parameters(self):
        for file in INTERFACE:
            found = defined(parsed(PACKAGE / (file + ".py")))
            for name, parameters in INTERFACE[file].items():
                self.assertIn(name, found, file)
                if not is_operator(name):
                    self.assertEqual(found[name], parameters, f"{file}: {name}")

    def test_each_name_can_be_imported(self):
        for file in INTERFACE:
            module = importlib.import_module("markersplice." + file)
            for name, parameters in INTERFACE[file].items():
                value = module
                for part in name.split("."):
                    value = getattr(value, part)
                if not is_operator(name):
                    self.assertEqual(list(inspect.signature(value).parameters), parameters.replace("* ", "").split())


class Rules(unittest.TestCase):
    def test_the_folder_holds_only_python_files(self):
        for path in PACKAGE.rglob("*"):
            if path.is_file() and path.parent.name != "__pycache__":
                self.assertEqual(path.suffix, ".py", path)
        self.assertTrue((PACKAGE / "__init__.py").is_file())

    def test_sizes_and_signs(self):
        for path in package_files():
            lines = path.read_text(encoding="utf-8").split("\n")
            self.assertLessEqual(len(lines) - 1, 399, path)
            for line in lines:
                self.assertLessEqual(len(line), 120, path)
                self.assertTrue(all(" " <= sign <= "~" for sign in line), (path, line))

    def test_functions_have_at_most_forty_lines(self):
        for path in package_files():
            for node in ast.walk(parsed(path)):
                if isinstance(node, ast.FunctionDef):
                    self.assertLessEqual(node.end_lineno - node.lineno + 1, 40, (path, node.name))

    def test_a_module_level_holds_only_definitions(self):
        allowed = (ast.ImportFrom, ast.FunctionDef, ast.ClassDef, ast.Assign)
        for path in package_files():
            for index, node in enumerate(parsed(path).body):
                docstring = (index == 0 and isinstance(node, ast.Expr) and isinstance(node.value, ast.Constant)
                             and isinstance(node.value.value, str))
                self.assertTrue(docstring or isinstance(node, allowed), (path, node.lineno))

    def test_a_name_means_one_thing(self):
        for path in package_files():
            tree = parsed(path)
            self.assertEqual(top_names(tree) & local_names(tree), set(), path)
            defs = {node.name for node in tree.body if isinstance(node, (ast.FunctionDef, ast.ClassDef))}
            self.assertEqual((defs | local_names(tree)) & set(dir(builtins)), set(), path)
            bound = [node.name for node in tree.body if isinstance(node, (ast.FunctionDef, ast.ClassDef))]
            bound += [alias.name for node in tree.body if isinstance(node, ast.ImportFrom) for alias in node.names]
            bound += [node.targets[0].id for node in tree.body if isinstance(node, ast.Assign)]
            self.assertEqual(len(bound), len(set(bound)), path)

    def test_only_the_listed_builtins_and_words(self):
        listed = {"len", "range", "enumerate", "zip", "min", "max", "sum", "abs", "sorted", "reversed", "int", "str",
                  "bool", "list", "tuple", "dict", "set", "isinstance", "ord", "repr", "any", "all", "ValueError",
                  "KeyError", "LookupError"}
        for path in package_files():
            for node in ast.walk(parsed(path)):
                if isinstance(node, ast.Name) and node.id in dir(builtins):
                    self.assertIn(node.id, listed, path)
                if isinstance(node, ast.Constant) and isinstance(node.value, str):
                    self.assertNotIn("%", node.value, path)
                self.assertNotIsInstance(node, (ast.GeneratorExp, ast.Global, ast.Nonlocal, ast.Delete), path)

    def test_imports_name_the_file_that_defines(self):
        for path in package_files():
            for node in ast.walk(parsed(path)):
                self.assertNotIsInstance(node, ast.Import, path)
                if isinstance(node, ast.ImportFrom) and node.module.startswith("markersplice"):
                    source = PACKAGE / (node.module.split(".")[1] + ".py")
                    here = {getattr(item, "name", None) for item in parsed(source).body}
                    here |= {item.targets[0].id for item in parsed(source).body if isinstance(item, ast.Assign)}
                    for alias in node.names:
                        self.assertIn(alias.name, here, path)
                        self.assertIsNone(alias.asname, path)


if __name__ == "__main__":
    unittest.main()
