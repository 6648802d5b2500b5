"""Checks of the interface and of the plainest rules for the form of the package."""

import ast
import importlib
import inspect
import pathlib
import unittest
import warnings

ROOT = pathlib.Path(__file__).resolve().parent.parent
PACKAGE = ROOT / "resampler"
LIBRARY = {
    "heapq": {"heappush", "heappop", "heapify", "heapreplace", "heappushpop"},
    "math": {"gcd", "lcm", "isqrt", "comb", "perm", "factorial"},
    "itertools": {"product", "combinations", "permutations", "chain", "accumulate", "pairwise", "islice",
                  "zip_longest"},
    "collections": {"defaultdict", "deque"},
}
FUNCTIONS = {
    "validation": {
        "is_name": "(value)",
        "is_integer": "(value, low, high)",
        "parse_integer": "(text, *, low=0, high=999999)",
        "split_words": "(text)",
    },
    "ratios": {
        "Ratio": "(numerator, denominator=1)",
        "ratio_sum": "(values, *, start=None)",
        "ratio_product": "(values)",
        "parse_ratio": "(text)",
    },
    "problems": {
        "Problem": "(variables, events=())",
        "find_overlap": "(problem)",
        "is_exclusive": "(problem)",
        "shows_overlap": "(problem, value)",
        "valid_assignments": "(problem, *, limit=4096)",
        "without_events": "(problem, names)",
        "combine_problems": "(one, other)",
    },
    "sampler": {
        "Sampler": "(problem, tapes)",
        "run_sampler": "(sampler, choose=None, *, max_steps=240)",
        "choose_last": "(events)",
        "round_robin": "(start=0)",
    },
    "heaps": {
        "Heap": "(problem, pieces=())",
        "heap_of": "(sampler)",
    },
    "replay": {
        "consumed_values": "(heap, assignment)",
        "build_sampler": "(heap, assignment, *, extra=None)",
        "check_run": "(problem, tapes, history, assignment)",
        "rewind_sampler": "(sampler)",
        "first_difference": "(one, other)",
    },
    "counting": {
        "independent_sets": "(problem)",
        "signed_counts": "(problem)",
        "heap_counts": "(problem, *, up_to=12)",
        "list_heaps": "(problem, size, *, limit=300)",
        "heap_weight": "(heap)",
        "weights_by_size": "(problem, *, up_to=12)",
        "valid_probability": "(problem)",
        "count_tapes": "(heap, lengths)",
    },
    "graphs": {
        "Graph": "(names, edges=())",
        "dependency_graph": "(problem)",
        "independence_value": "(graph, probabilities, *, subset=None)",
        "independent_name_sets": "(graph)",
        "find_certificate": "(graph, probabilities, *, order=None)",
        "check_certificate": "(graph, probabilities, value)",
        "lower_bound": "(graph, probabilities, value)",
    },
    "tables": {
        "Table": "(weights, events)",
        "find_dependence": "(table, graph)",
        "table_of": "(problem)",
        "build_table": "(graph, probabilities, value)",
        "check_table": "(graph, probabilities, value)",
    },
    "trees": {
        "witness_tree": "(problem, history, step)",
        "witness_trees": "(problem, history)",
        "tree_values": "(problem, rows)",
        "check_tree": "(problem, history, step, value)",
        "fits_tapes": "(problem, tapes, rows)",
    },
    "textio": {
        "problem_text": "(problem)",
        "parse_problem": "(text)",
        "tapes_text": "(problem, tapes)",
        "parse_tapes": "(problem, text)",
        "history_text": "(problem, history)",
        "parse_history": "(problem, text)",
        "graph_text": "(graph)",
        "parse_graph": "(text)",
    },
    "session": {
        "Session": "(*, max_samplers=6)",
    },
}
METHODS = {
    "ratios.Ratio": {
        "num": "(self)", "den": "(self)", "sign": "(self)", "add": "(self, other)", "subtract": "(self, other)",
        "multiply": "(self, other)", "divide": "(self, other)", "less_than": "(self, other)",
        "__eq__": "(self, other)", "__str__": "(self)",
    },
    "problems.Problem": {
        "variables": "(self)", "events": "(self)", "size": "(self, variable)", "scope": "(self, event)",
        "bad_tuples": "(self, event)", "are_adjacent": "(self, one, other)", "neighbors": "(self, event)",
        "is_assignment": "(self, value)", "occurs": "(self, event, assignment)", "occurring": "(self, assignment)",
        "assignment_count": "(self)", "probability": "(self, event)", "__eq__": "(self, other)", "__len__": "(self)",
    },
    "sampler.Sampler": {
        "problem": "(self)", "assignment": "(self)", "remaining": "(self, variable)", "dropped": "(self, variable)",
        "occurring": "(self)", "ready": "(self)", "is_valid": "(self)", "is_stuck": "(self)",
        "resample": "(self, event)", "history": "(self)", "undo": "(self)", "copied": "(self)",
        "__eq__": "(self, other)", "__len__": "(self)",
    },
    "heaps.Heap": {
        "problem": "(self)", "layers": "(self)", "pieces": "(self)", "bottom": "(self)", "top": "(self)",
        "with_piece": "(self, piece)", "without_top": "(self, piece)", "concatenated": "(self, other)",
        "reversed_heap": "(self)", "is_order": "(self, value)", "orders": "(self, *, limit=500)",
        "dropped": "(self, variable)", "is_lower_part_of": "(self, other)", "__eq__": "(self, other)",
        "__len__": "(self)", "__str__": "(self)",
    },
    "graphs.Graph": {
        "names": "(self)", "edges": "(self)", "are_adjacent": "(self, one, other)", "neighbors": "(self, name)",
        "__eq__": "(self, other)", "__len__": "(self)",
    },
    "tables.Table": {
        "weights": "(self)", "events": "(self)", "probability": "(self, name)", "joint_probability": "(self, names)",
        "none_probability": "(self)", "__eq__": "(self, other)", "__len__": "(self)",
    },
    "session.Session": {
        "problem": "(self)", "names": "(self)", "sampler": "(self, name)", "log": "(self)", "execute": "(self, line)",
        "execute_all": "(self, lines)",
    },
}


def files():
    return sorted(PACKAGE.rglob("*.py"))


def parsed(path):
    return ast.parse(path.read_text("utf-8"))


class Interface(unittest.TestCase):
    def test_functions_and_classes(self):
        for name, signatures in FUNCTIONS.items():
            module = importlib.import_module("resampler." + name)
            for thing, signature in signatures.items():
                found = getattr(module, thing)
                self.assertEqual(found.__module__, "resampler." + name)
                self.assertEqual(str(inspect.signature(found)), signature)

    def test_methods_stand_in_their_class(self):
        for place, signatures in METHODS.items():
            name, kind = place.split(".")
            found = vars(getattr(importlib.import_module("resampler." + name), kind))
            for method, signature in signatures.items():
                self.assertEqual(str(inspect.signature(found[method])), signature)


class Form(unittest.TestCase):
    def test_folder_holds_nothing_else(self):
        for path in PACKAGE.rglob("*"):
            if "__pycache__" not in path.parts and path.is_file():
                self.assertEqual(path.suffix, ".py", path)
        self.assertTrue((PACKAGE / "__init__.py").is_file())

    def test_lines_and_characters(self):
        for path in files():
            text = path.read_bytes().decode("ascii")
            self.assertLessEqual(text.count("\n"), 399, path)
            for line in text.split("\n"):
                self.assertLessEqual(len(line), 120, path)
                self.assertTrue(all(" " <= sign <= "~" for sign in line), path)

    def test_functions_are_short(self):
        for path in files():
            for node in ast.walk(parsed(path)):
                if isinstance(node, ast.FunctionDef):
                    self.assertLessEqual(node.end_lineno - node.lineno + 1, 40, (path, node.name))

    def test_imports(self):
        for path in files():
            for node in ast.walk(parsed(path)):
                self.assertNotIsInstance(node, ast.Import, path)
                if isinstance(node, ast.ImportFrom):
                    self.assertEqual(node.level, 0, path)
                    if not node.module.startswith("resampler."):
                        allowed = LIBRARY[node.module]
                        self.assertLessEqual({one.name for one in node.names}, allowed, path)
                        self.assertEqual({one.asname for one in node.names}, {None}, path)

    def test_python_gives_no_warning(self):
        with warnings.catch_warnings():
            warnings.simplefilter("error")
            for path in files():
                compile(path.read_text("utf-8"), str(path), "exec")


if __name__ == "__main__":
    unittest.main()
