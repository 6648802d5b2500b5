"""Arguments by position and by name, in any order, for every function, class and method of the interface."""

import importlib
import inspect
import unittest
from itertools import permutations

from resampler.errors import InvalidName
from resampler.graphs import Graph, find_certificate
from resampler.heaps import Heap
from resampler.problems import Problem
from resampler.ratios import Ratio
from resampler.sampler import Sampler
from resampler.session import Session
from resampler.tables import Table
from tests.support import demo, path, quarters
from tests.test_form import FUNCTIONS, METHODS

X, Y = ("x", (0, 0)), ("y", (1, 1))
TAPES = {"a": [0, 1], "b": [0, 1, 0], "c": [1, 0]}
ROWS = [(0, "y", (1, 1), None), (1, "x", (0, 0), 0)]
ADD = "tape a 0 1 / tape b 0 1 0 / tape c 1 0"


def sampler():
    return Sampler(demo(), TAPES)


def stepped():
    result = sampler()
    result.resample("x")
    return result


def heap():
    return Heap(demo(), [X, Y, X])


def session():
    result = Session()
    result.execute("problem variable a 2 / event x a : 0")
    result.execute("sampler s tape a 0 1")
    return result


def ones():
    return {"x": Ratio(1), "y": Ratio(1), "z": Ratio(1)}


def arguments_of_functions():
    """Return for each function and class of the interface arguments by their names."""
    other = Problem([("d", 2)], [("z", ["d"], [(1,)])])
    table = Table([1, 1, 2], [("x", [0, 1]), ("y", [1]), ("z", [])])
    good, bad = find_certificate(path(), quarters()), find_certificate(path(), ones())
    return {
        "is_name": {"value": "a"}, "is_integer": {"value": 3, "low": 2, "high": 4},
        "parse_integer": {"text": "7", "low": 7, "high": 8}, "split_words": {"text": "a b"},
        "Ratio": {"numerator": 1, "denominator": 2}, "ratio_sum": {"values": [Ratio(1)], "start": Ratio(2)},
        "ratio_product": {"values": [Ratio(2), Ratio(3)]}, "parse_ratio": {"text": "1/2"},
        "Problem": {"variables": [("a", 2)], "events": [("x", ["a"], [(0,)])]}, "find_overlap": {"problem": demo()},
        "is_exclusive": {"problem": demo()}, "shows_overlap": {"problem": demo(), "value": ("x", "y", (0, 0, 0))},
        "valid_assignments": {"problem": demo(), "limit": 8}, "without_events": {"problem": demo(), "names": ["x"]},
        "combine_problems": {"one": demo(), "other": other}, "Sampler": {"problem": demo(), "tapes": TAPES},
        "run_sampler": {"sampler": sampler(), "choose": max, "max_steps": 1}, "choose_last": {"events": ["x", "y"]},
        "round_robin": {"start": 1}, "Heap": {"problem": demo(), "pieces": [X]}, "heap_of": {"sampler": stepped()},
        "consumed_values": {"heap": heap(), "assignment": (1, 0, 0)},
        "build_sampler": {"heap": heap(), "assignment": (1, 0, 0), "extra": {"a": [1]}},
        "check_run": {"problem": demo(), "tapes": TAPES, "history": [X], "assignment": (1, 1, 1)},
        "rewind_sampler": {"sampler": stepped()}, "first_difference": {"one": stepped(), "other": sampler()},
        "independent_sets": {"problem": demo()}, "signed_counts": {"problem": demo()},
        "heap_counts": {"problem": demo(), "up_to": 3}, "list_heaps": {"problem": demo(), "size": 2, "limit": 4},
        "heap_weight": {"heap": heap()}, "weights_by_size": {"problem": demo(), "up_to": 3},
        "valid_probability": {"problem": demo()}, "count_tapes": {"heap": heap(), "lengths": {"a": 3, "b": 5, "c": 2}},
        "Graph": {"names": ["x", "y"], "edges": [("x", "y")]}, "dependency_graph": {"problem": demo()},
        "independence_value": {"graph": path(), "probabilities": quarters(), "subset": ["x"]},
        "independent_name_sets": {"graph": path()},
        "find_certificate": {"graph": path(), "probabilities": quarters(), "order": ["z", "x", "y"]},
        "check_certificate": {"graph": path(), "probabilities": quarters(), "value": good},
        "lower_bound": {"graph": path(), "probabilities": quarters(), "value": good},
        "Table": {"weights": [1, 2], "events": [("x", [1])]}, "find_dependence": {"table": table, "graph": path()},
        "table_of": {"problem": demo()}, "build_table": {"graph": path(), "probabilities": ones(), "value": bad},
        "check_table": {"graph": path(), "probabilities": ones(), "value": table},
        "witness_tree": {"problem": demo(), "history": [X, Y], "step": 1},
        "witness_trees": {"problem": demo(), "history": [X, Y]}, "tree_values": {"problem": demo(), "rows": ROWS},
        "check_tree": {"problem": demo(), "history": [X, Y], "step": 1, "value": ROWS},
        "fits_tapes": {"problem": demo(), "tapes": TAPES, "rows": ROWS}, "problem_text": {"problem": demo()},
        "parse_problem": {"text": "variable a 2"}, "tapes_text": {"problem": demo(), "tapes": TAPES},
        "parse_tapes": {"problem": other, "text": "tape d 0"}, "history_text": {"problem": demo(), "history": [X]},
        "parse_history": {"problem": demo(), "text": "x:0,0"}, "graph_text": {"graph": path()},
        "parse_graph": {"text": "name x"}, "Session": {"max_samplers": 1},
    }


def arguments_of_methods():
    """Return for each method with parameters an object and arguments by their names."""
    table = Table([1, 1, 2], [("x", [0, 1]), ("y", [1])])
    found = {
        "problems.Problem": (demo(), {
            "size": {"variable": "a"}, "scope": {"event": "x"}, "bad_tuples": {"event": "x"},
            "are_adjacent": {"one": "x", "other": "y"}, "neighbors": {"event": "x"}, "is_assignment": {"value": (0, 0, 0)},
            "occurs": {"event": "x", "assignment": (0, 0, 0)}, "occurring": {"assignment": (0, 0, 0)},
            "probability": {"event": "x"}}),
        "sampler.Sampler": (sampler(), {
            "remaining": {"variable": "b"}, "dropped": {"variable": "b"}, "resample": {"event": "x"}}),
        "heaps.Heap": (heap(), {
            "with_piece": {"piece": Y}, "without_top": {"piece": X}, "concatenated": {"other": heap()},
            "is_order": {"value": [X, Y, X]}, "orders": {"limit": 1}, "dropped": {"variable": "a"},
            "is_lower_part_of": {"other": heap()}}),
        "graphs.Graph": (path(), {"are_adjacent": {"one": "x", "other": "z"}, "neighbors": {"name": "y"}}),
        "tables.Table": (table, {"probability": {"name": "x"}, "joint_probability": {"names": ["x", "y"]}}),
        "session.Session": (session(), {
            "sampler": {"name": "s"}, "execute": {"line": "state s"}, "execute_all": {"lines": ["show", "run s"]}}),
    }
    for method in ("add", "subtract", "multiply", "divide", "less_than"):
        found.setdefault("ratios.Ratio", (Ratio(1, 2), {}))[1][method] = {"other": Ratio(1, 3)}
    return found


def shown(value):
    """Return what can be compared of a result."""
    if isinstance(value, Session):
        return [value.problem(), value.names(), value.log()]
    return [value(["x", "y", "z"]) for _ in range(4)] if inspect.isfunction(value) else value


class Arguments(unittest.TestCase):
    def assert_alike(self, prepare):
        """Check all ways to pass the same arguments; each call gets arguments of its own."""
        action, given = prepare()
        parameters = list(inspect.signature(action).parameters.values())
        self.assertEqual([one.name for one in parameters], list(given))
        free = [one.name for one in parameters if one.kind is one.POSITIONAL_OR_KEYWORD]
        expected = shown(action(**given))
        for count in range(len(free) + 1):
            for order in permutations(list(given)[count:]):
                action, given = prepare()
                positional = [given[name] for name in free[:count]]
                self.assertEqual(shown(action(*positional, **{name: given[name] for name in order})), expected)
        if len(free) < len(given):
            action, given = prepare()
            with self.assertRaises(TypeError):
                action(*given.values())
        for one in parameters:
            action, given = prepare()
            del given[one.name]
            if one.default is one.empty:
                with self.assertRaises(TypeError):
                    action(**given)
            else:
                left_out = shown(action(**given))
                action, given = prepare()
                self.assertEqual(shown(action(**{**given, one.name: one.default})), left_out)

    def test_functions_and_classes(self):
        self.assertEqual(set(arguments_of_functions()), {name for names in FUNCTIONS.values() for name in names})
        for module, names in FUNCTIONS.items():
            for name in names:
                action = getattr(importlib.import_module("resampler." + module), name)
                self.assert_alike(lambda: (action, arguments_of_functions()[name]))

    def test_methods(self):
        for kind, signatures in METHODS.items():
            methods = arguments_of_methods()[kind][1]
            self.assertEqual(set(methods), {name for name, signature in signatures.items()
                                            if signature != "(self)" and not name.startswith("__")})
            for name in methods:
                self.assert_alike(lambda: (getattr(arguments_of_methods()[kind][0], name),
                                           arguments_of_methods()[kind][1][name]))

    def test_errors(self):
        self.assertEqual([InvalidName(value="a").value, InvalidName("a").value], ["a", "a"])

    def test_order_of_keys(self):
        self.assertEqual(Sampler(demo(), dict(list(TAPES.items())[::-1])), sampler())
        turned = dict(list(quarters().items())[::-1])
        self.assertEqual(find_certificate(path(), turned), find_certificate(path(), quarters()))
        self.assertEqual(Graph(["x", "y"]), Graph(("x", "y"), ()))


if __name__ == "__main__":
    unittest.main()
