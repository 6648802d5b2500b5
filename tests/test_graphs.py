import random
import unittest
from fractions import Fraction
from itertools import combinations, permutations
from math import prod

from resampler.errors import (DuplicateName, InvalidCertificate, InvalidEvents, InvalidGraph, InvalidName, InvalidNames,
                              InvalidOrder, InvalidProbabilities, InvalidProblem, UnknownName)
from resampler.graphs import (Graph, check_certificate, dependency_graph, find_certificate, independence_value,
                              independent_name_sets, lower_bound)
from resampler.problems import Problem
from resampler.ratios import Ratio
from tests.samples import all_values, non_lists, without_kind
from tests.support import (EVENT_NAMES, PackageTest, adjacent, demo, fraction, fresh, graphs_with_probabilities, long_names,
                           pair, path, problems, quarters, random_graph, shares)


def apart(graph, names):
    """Tell by the edges whether no two of some names are adjacent."""
    return not any([adjacent(graph, one, other) for one, other in combinations(names, 2)])


def value_by_definition(graph, probabilities, subset):
    total = Fraction(0)
    for size in range(len(subset) + 1):
        for chosen in combinations(subset, size):
            if apart(graph, chosen):
                total += (-1) ** size * prod([fraction(probabilities[name]) for name in chosen])
    return total


def required_sets(graph, order, end):
    """Return by the definition the sets that a certificate needs which ends at a prefix."""
    found, rest = set(), [frozenset(order[:end])]
    while rest:
        chosen = rest.pop()
        if chosen not in found:
            found.add(chosen)
            if chosen:
                last = max(chosen, key=order.index)
                rest.append(chosen - {last})
                rest.append(frozenset([name for name in chosen if not adjacent(graph, name, last)]))
    return found


def positions(graph, names):
    return [graph.names().index(name) for name in names]


def not_probabilities():
    """Return values of every kind that are no probabilities of a graph of x, y and z."""
    half = Ratio(1, 2)
    return all_values() + [{"x": half, "y": half}, {"x": half, "y": half, "z": half, "u": half},
                           {"x": half, "y": half, "u": half}, {"x": half, "y": half, "z": Ratio(-1, 9)},
                           {"x": half, "y": Ratio(9, 8), "z": half}, {"x": 1, "y": half, "z": half},
                           {"x": half, "y": 0, "z": half}, {"x": half, "y": half, "z": True}, [half] * 3,
                           {"x": half, "y": half, "z": None}, {"x": half, "y": half, 0: half},
                           {"x": half, "y": half, "z": "1/2"}, {"x": half, "y": [half], "z": half},
                           [("x", half), ("y", half), ("z", half)], {"X": half, "y": half, "z": half}]


class Building(PackageTest):
    def test_example(self):
        graph = Graph(["x", "y", "z"], [("z", "y"), ("x", "y")])
        self.assertEqual([graph.edges(), graph.neighbors("y"), graph.are_adjacent("x", "z")],
                         [[("x", "y"), ("y", "z")], ["x", "z"], False])
        self.assertEqual([graph.names(), len(graph)], [["x", "y", "z"], 3])

    def test_order_of_the_names(self):
        graph = Graph(["z", "x", "y"], [("x", "y"), ("y", "z"), ("x", "z")])
        self.assertEqual(graph.names(), ["z", "x", "y"])
        self.assertEqual(graph.edges(), [("z", "x"), ("z", "y"), ("x", "y")])
        self.assertEqual(graph.neighbors("y"), ["z", "x"])

    def test_edges_omitted(self):
        for graph in (Graph(["x", "y"]), Graph(["x", "y"], []), Graph(edges=(), names=("x", "y"))):
            self.assertEqual([graph.names(), graph.edges(), len(graph)], [["x", "y"], [], 2])

    def test_by_the_edges(self):
        source = random.Random(80)
        for size in list(range(1, 9)) * 5:
            names = source.sample(EVENT_NAMES, size)
            pairs = [one for one in combinations(names, 2) if source.random() < 0.5]
            edges = [one if source.random() < 0.5 else one[::-1] for one in source.sample(pairs, len(pairs))]
            graph = Graph(names, edges)
            self.assertEqual([graph.names(), graph.edges(), len(graph)], [names, pairs, size])
            for one in names:
                for other in names:
                    expected = one == other or (one, other) in edges or (other, one) in edges
                    self.assertIs(graph.are_adjacent(one, other), expected)
                self.assertEqual(graph.neighbors(one), [other for other in names if other != one
                                                        and graph.are_adjacent(one, other)])

    def test_tuples_for_lists(self):
        graph = Graph(("x", "y", "z"), (("z", "y"), ("x", "y")))
        self.assertEqual(graph, path())
        self.assertIs(type(graph.names()), list)

    def test_later_changes_of_the_arguments(self):
        names, edges = ["x", "y", "z"], [("z", "y"), ("x", "y")]
        graph = Graph(names, edges)
        self.assertEqual([names, edges], [["x", "y", "z"], [("z", "y"), ("x", "y")]])
        names[0] = "u"
        edges.append(("x", "z"))
        self.assertEqual(graph, path())

    def test_no_list_is_shared_with_the_graph(self):
        graph = path()
        for action in (graph.names, graph.edges, lambda: graph.neighbors("y")):
            self.assert_new_lists(action)
        self.assertEqual(graph, path())

    def test_number_of_names(self):
        self.assertEqual(Graph(EVENT_NAMES).names(), EVENT_NAMES)
        for names in ([], (), EVENT_NAMES + ["p"], [5] * 9, ["x"] * 20):
            self.assert_error(InvalidGraph, "value", names, Graph, names)
        for value in non_lists():
            self.assert_error(InvalidGraph, "value", value, Graph, value)
            self.assert_error(InvalidGraph, "value", value, Graph, value, 5)

    def test_no_names(self):
        for value in all_values() + ["X", "abcdefghi", "a1", "x y", "x\n", "0"]:
            if value not in ("a", "abc"):
                self.assert_error(InvalidName, "value", value, Graph, [value])
                self.assert_error(InvalidName, "value", value, Graph, ["x", "abcdefgh", value, "x"], 5)
                self.assert_error(InvalidName, "value", value, Graph, ("x", value, value), [("u", "v")])

    def test_duplicates(self):
        name = fresh("same")
        self.assert_error(DuplicateName, "name", name, Graph, ["same", "x", name, "X", "x"])
        self.assert_error(DuplicateName, "name", name, Graph, ["same", name], 5)

    def test_edges_are_no_list(self):
        for value in non_lists() + ["xy", {("x", "y"): 1}]:
            self.assert_error(InvalidGraph, "value", value, Graph, ["x", "y"], value)

    def test_no_edges(self):
        for value in all_values() + [["x", "y"], ("x",), ("x", "y", "z"), "xy", {"x": "y"}, (("x", "y"),)]:
            if isinstance(value, tuple) and len(value) == 2:
                continue
            self.assert_error(InvalidGraph, "value", value, Graph, ["x", "y", "z"], [("x", "y"), value, ("x", "u")])
            self.assert_error(InvalidGraph, "value", value, Graph, ["x", "y", "z"], (value, ("x", "u")))

    def test_unknown_names(self):
        for value in all_values() + ["X", "u"]:
            self.assert_error(UnknownName, "name", value, Graph, ["x", "y"], [("x", "y"), (value, "v"), 5])
            self.assert_error(UnknownName, "name", value, Graph, ["x", "y"], [("x", value), ("x", "x")])
        first, second = fresh("one"), fresh("two")
        self.assert_error(UnknownName, "name", first, Graph, ["x"], [(first, second)])
        self.assert_error(UnknownName, "name", first, Graph, ["x"], [(first, first)])

    def test_edges_that_are_not_allowed(self):
        for first, edge in [(("x", "y"), ("x", "y")), (("x", "y"), ("y", "x")), (("y", "x"), ("x", "y")),
                            (("x", "y"), ("z", "z")), (("x", "z"), ("x", "x"))]:
            edge = tuple(list(edge))
            self.assert_error(InvalidGraph, "value", edge, Graph, ["x", "y", "z"], [first, edge, ("x", "u")])


class Reading(PackageTest):
    def test_equal_graphs(self):
        for edges in ([("x", "y"), ("y", "z")], [("y", "z"), ("y", "x")], (("z", "y"), ("x", "y"))):
            self.assertIs(Graph(["x", "y", "z"], edges) == path(), True)
            self.assertIs(Graph(["x", "y", "z"], edges) != path(), False)

    def test_other_graphs(self):
        graphs = [path(), Graph(["x", "y", "z"]), Graph(["x", "y", "z"], [("x", "y")]), Graph(["z", "y", "x"], path().edges()),
                  Graph(["x", "y", "z"], [("x", "y"), ("x", "z")]), Graph(["x", "y"], [("x", "y")]), Graph(["x", "y"]),
                  Graph(["y", "x"]), Graph(["x", "y", "z", "u"], path().edges()), Graph(["x"])]
        for at, one in enumerate(graphs):
            for place, other in enumerate(graphs):
                self.assertIs(one == other, at == place)
        for value in without_kind(Graph):
            self.assertIs(path() == value, False)
            self.assertIs(value == path(), False)

    def test_repr(self):
        self.assertIsInstance(repr(path()), str)

    def test_unknown_names(self):
        for value in all_values() + ["X", "u"]:
            for action in (path().neighbors, lambda name: path().are_adjacent(name, "x"),
                           lambda name: path().are_adjacent(name, 5), lambda name: path().are_adjacent("x", name),
                           lambda name: path().are_adjacent(other=name, one="y")):
                self.assert_error(UnknownName, "name", value, action, value)


class Dependencies(PackageTest):
    def test_edges_of_adjacent_events(self):
        for problem in problems(100, 81):
            if len(problem):
                graph = dependency_graph(problem)
                self.assertEqual(graph.names(), problem.events())
                self.assertEqual(graph.edges(), [(one, other) for one, other in combinations(problem.events(), 2)
                                                 if shares(problem, one, other)])

    def test_examples(self):
        self.assertEqual(dependency_graph(demo()), Graph(["x", "y"], [("x", "y")]))
        self.assertEqual(dependency_graph(problem=pair()), Graph(["x", "y"]))
        self.assertEqual(dependency_graph(long_names()).edges(), [("both", "low"), ("both", "never")])

    def test_problems_without_events(self):
        with self.assertRaises(InvalidEvents) as context:
            dependency_graph(Problem([("a", 2)]))
        self.assertEqual(context.exception.value, [])

    def test_no_problem(self):
        for value in without_kind(Problem):
            self.assert_error(InvalidProblem, "value", value, dependency_graph, value)


class IndependenceValue(PackageTest):
    def test_examples(self):
        self.assertEqual([str(independence_value(path(), quarters())),
                          str(independence_value(path(), quarters(), subset=["z", "y"]))], ["5/16", "1/2"])
        self.assertEqual(independence_value(subset=None, probabilities=quarters(), graph=path()), Ratio(5, 16))

    def test_by_the_definition(self):
        source, signs = random.Random(82), []
        for graph, probabilities in graphs_with_probabilities(80, 82):
            names = graph.names()
            found = independence_value(graph, probabilities)
            self.assertIs(type(found), Ratio)
            self.assertEqual(fraction(found), value_by_definition(graph, probabilities, names))
            signs.append(found.sign())
            for _ in range(4):
                subset = source.sample(names, source.randint(0, len(names)))
                expected = value_by_definition(graph, probabilities, subset)
                for given in (subset, tuple(subset)):
                    self.assertEqual(fraction(independence_value(graph, probabilities, subset=given)), expected)
        self.assertGreater(min(signs.count(1), signs.count(0), signs.count(-1)), 2)

    def test_one_name_less(self):
        for graph, probabilities in graphs_with_probabilities(40, 83):
            for name in graph.names():
                rest = [other for other in graph.names() if other != name]
                far = [other for other in rest if not graph.are_adjacent(name, other)]
                expected = independence_value(graph, probabilities, subset=rest).subtract(
                    probabilities[name].multiply(independence_value(graph, probabilities, subset=far)))
                self.assertEqual(independence_value(graph, probabilities), expected)

    def test_no_names(self):
        for subset in ([], ()):
            self.assertEqual(independence_value(path(), quarters(), subset=subset), Ratio(1))

    def test_order_of_keys(self):
        one = {"x": Ratio(1), "y": Ratio(0), "z": Ratio(1, 3)}
        other = {"z": Ratio(1, 3), "y": Ratio(0), "x": Ratio(1)}
        self.assertEqual(independence_value(path(), one), independence_value(path(), other))

    def test_subset_is_no_list(self):
        for value in non_lists():
            if value is not None:
                self.assert_error(InvalidNames, "value", value, independence_value, path(), quarters(), subset=value)
        for value in (["x"] * 9, [5] * 9, ("x",) * 20):
            self.assert_error(InvalidNames, "value", value, independence_value, path(), quarters(), subset=value)
        with self.assertRaises(TypeError):
            independence_value(path(), quarters(), ["x"])

    def test_names_of_the_subset(self):
        for value in all_values() + ["u", "X"]:
            for subset in ([value], ["x", value, "x"], ("z", "y", value, "u")):
                self.assert_error(UnknownName, "name", value, independence_value, path(), quarters(), subset=subset)
        graph, name = Graph(["left", "right"]), fresh("left")
        self.assert_error(DuplicateName, "name", name, independence_value, graph,
                          {"left": Ratio(0), "right": Ratio(1)}, subset=["left", "right", name, "u"])

    def test_order_of_checks(self):
        self.assert_error(InvalidGraph, "value", None, independence_value, None, None, subset=5)
        wrong = {}
        self.assert_error(InvalidProbabilities, "value", wrong, independence_value, path(), wrong, subset=5)


class IndependentNameSets(PackageTest):
    def test_by_the_definition(self):
        for graph, _ in graphs_with_probabilities(60, 84):
            names = graph.names()
            self.assertEqual(independent_name_sets(graph), [chosen for size in range(len(names) + 1)
                                                            for chosen in combinations(names, size) if apart(graph, chosen)])

    def test_examples(self):
        self.assertEqual(independent_name_sets(graph=path()), [(), ("x",), ("y",), ("z",), ("x", "z")])
        self.assertEqual(independent_name_sets(Graph(["z", "x"])), [(), ("z",), ("x",), ("z", "x")])
        self.assertEqual(len(independent_name_sets(Graph(EVENT_NAMES))), 256)

    def test_new_lists(self):
        self.assert_new_lists(lambda: independent_name_sets(path()))

    def test_no_graph(self):
        for value in without_kind(Graph):
            self.assert_error(InvalidGraph, "value", value, independent_name_sets, value)


class NoGraphNorProbabilities(PackageTest):
    ACTIONS = [independence_value, find_certificate, lambda graph, probabilities: check_certificate(graph, probabilities, 5),
               lambda graph, probabilities: lower_bound(graph, probabilities, 5)]

    def test_no_graph(self):
        for action in self.ACTIONS:
            for value in without_kind(Graph):
                self.assert_error(InvalidGraph, "value", value, action, value, quarters())
                self.assert_error(InvalidGraph, "value", value, action, value, 5)

    def test_no_probabilities(self):
        for action in self.ACTIONS:
            for value in not_probabilities():
                self.assert_error(InvalidProbabilities, "value", value, action, path(), value)

    def test_least_and_greatest_probabilities(self):
        value = {"x": Ratio(0), "y": Ratio(1), "z": Ratio(0)}
        self.assertEqual(independence_value(path(), value), Ratio(0))
        self.assertEqual(find_certificate(path(), value)[0], "not_positive")


class FindCertificate(PackageTest):
    def assert_certificate(self, graph, probabilities, order, value):
        """Check by the definition that a value is the certificate of an order, in some arrangement."""
        verdict, names, rows = value
        self.assertEqual([type(value), type(names), type(rows), names], [tuple, list, list, order])
        prefixes = [value_by_definition(graph, probabilities, order[:end]) for end in range(1, len(order) + 1)]
        bad = [end for end, found in enumerate(prefixes, 1) if found <= 0]
        self.assertEqual(verdict, "not_positive" if bad else "positive")
        end = bad[0] if bad else len(order)
        self.assertEqual(len(rows), len({chosen for chosen, _ in rows}))
        self.assertEqual({frozenset(chosen) for chosen, _ in rows}, required_sets(graph, order, end))
        seen = []
        for row in rows:
            self.assertEqual([type(row), len(row), type(row[0]), type(row[1])], [tuple, 2, tuple, Ratio])
            self.assertEqual(positions(graph, row[0]), sorted(positions(graph, row[0])))
            self.assertEqual(fraction(row[1]), value_by_definition(graph, probabilities, row[0]))
            if row[0]:
                last = max(row[0], key=order.index)
                self.assertIn({name for name in row[0] if name != last}, seen)
                self.assertIn({name for name in row[0] if not adjacent(graph, name, last)}, seen)
            seen.append(set(row[0]))

    def test_example(self):
        value = find_certificate(path(), quarters(), order=["y", "x", "z"])
        self.assertEqual([value[0], value[1], len(value[2]), value[2][4][0]],
                         ["positive", ["y", "x", "z"], 5, ("x", "y", "z")])
        self.assertEqual(find_certificate(order=("y", "x", "z"), probabilities=quarters(), graph=path()), value)

    def test_by_the_definition(self):
        source, verdicts = random.Random(85), []
        for graph, probabilities in graphs_with_probabilities(120, 85):
            self.assert_certificate(graph, probabilities, graph.names(), find_certificate(graph, probabilities))
            for _ in range(3):
                order = source.sample(graph.names(), len(graph))
                value = find_certificate(graph, probabilities, order=order)
                self.assert_certificate(graph, probabilities, order, value)
                self.assertEqual(find_certificate(graph, probabilities, order=tuple(order)), value)
                verdicts.append((value[0], len(value[2][-1][0]) == len(graph)))
        for kind in (("positive", True), ("not_positive", True), ("not_positive", False)):
            self.assertGreater(verdicts.count(kind), 20)

    def test_end_at_the_first_prefix(self):
        probabilities = {"x": Ratio(1, 3), "y": Ratio(2, 3), "z": Ratio(1)}
        self.assertEqual(find_certificate(path(), probabilities),
                         ("not_positive", ["x", "y", "z"], [((), Ratio(1)), (("x",), Ratio(2, 3)), (("x", "y"), Ratio(0))]))
        self.assertEqual(find_certificate(path(), probabilities, order=["z", "y", "x"]),
                         ("not_positive", ["z", "y", "x"], [((), Ratio(1)), (("z",), Ratio(0))]))

    def test_one_name(self):
        graph = Graph(["x"])
        for ratio, verdict in [(Ratio(0), "positive"), (Ratio(999, 1000), "positive"), (Ratio(1), "not_positive")]:
            value = find_certificate(graph, {"x": ratio})
            self.assertEqual(value, (verdict, ["x"], [((), Ratio(1)), (("x",), Ratio(1).subtract(ratio))]))

    def test_verdict_does_not_depend_on_the_order(self):
        for graph, probabilities in graphs_with_probabilities(25, 86, most=5):
            verdicts = {find_certificate(graph, probabilities, order=order)[0] for order in permutations(graph.names())}
            self.assertEqual(len(verdicts), 1)

    def test_no_order(self):
        wrong = [["x", "y"], ["x", "y", "z", "x"], ["x", "y", "x"], ["x", "y", "u"], ["x", "y", 5], ["x", "y", ["z"]],
                 [], ("x", "y"), "xyz", {"x": 1, "y": 2, "z": 3}, ["x", "y", None], ["x", "y", "z", "u"]]
        for value in [value for value in all_values() if value is not None] + wrong:
            self.assert_error(InvalidOrder, "value", value, find_certificate, path(), quarters(), order=value)
        with self.assertRaises(TypeError):
            find_certificate(path(), quarters(), ["x", "y", "z"])

    def test_order_of_checks(self):
        wrong = {}
        self.assert_error(InvalidGraph, "value", None, find_certificate, None, wrong, order=5)
        self.assert_error(InvalidProbabilities, "value", wrong, find_certificate, path(), wrong, order=5)

    def test_new_lists(self):
        self.assert_new_lists(lambda: find_certificate(path(), quarters()))
        order = ["y", "x", "z"]
        value = find_certificate(path(), quarters(), order=order)
        order[0] = "u"
        self.assertEqual(value[1], ["y", "x", "z"])


class CheckCertificate(PackageTest):
    def assert_checked(self, expected, value, graph=None, probabilities=None):
        graph = path() if graph is None else graph
        probabilities = quarters() if probabilities is None else probabilities
        self.assertIs(check_certificate(graph, probabilities, value), expected)

    def test_certificates_that_are_found(self):
        source = random.Random(87)
        for graph, probabilities in graphs_with_probabilities(80, 87):
            for order in (None, source.sample(graph.names(), len(graph))):
                verdict, names, rows = find_certificate(graph, probabilities, order=order)
                self.assert_checked(True, (verdict, names, rows), graph, probabilities)
                self.assert_checked(True, (verdict, tuple(names), tuple(rows)), graph, probabilities)
                other = "positive" if verdict == "not_positive" else "not_positive"
                self.assert_checked(False, (other, names, rows), graph, probabilities)

    def test_a_changed_row(self):
        source = random.Random(88)
        for graph, probabilities in graphs_with_probabilities(50, 88):
            verdict, names, rows = find_certificate(graph, probabilities)
            for at, (chosen, value) in enumerate(rows):
                for changed in ((chosen, value.add(Ratio(1, 7))), (chosen, value.multiply(Ratio(-1)).subtract(Ratio(1))),
                                (chosen[1:], value) if chosen else (tuple(names[:1]), value), (chosen[::-1], value),
                                [chosen, value], (list(chosen), value), (chosen, value.num()), (chosen, value, value),
                                (chosen,), None, (chosen + chosen[:1], value), (chosen, str(value)), (value, chosen)):
                    if changed != (chosen, value):
                        self.assert_checked(False, (verdict, names, rows[:at] + [changed] + rows[at + 1:]),
                                            graph, probabilities)
                self.assert_checked(False, (verdict, names, rows[:at] + rows[at + 1:]), graph, probabilities)
                again = source.randint(at + 1, len(rows))
                self.assert_checked(False, (verdict, names, rows[:again] + [rows[at]] + rows[again:]), graph, probabilities)

    def test_arrangements(self):
        verdict, names, rows = find_certificate(path(), quarters())
        seen = []
        for arranged in permutations(rows):
            places = {chosen: at for at, (chosen, _) in enumerate(arranged)}
            expected = (places[()] < places[("x",)] < places[("x", "y")] < places[("x", "y", "z")])
            seen.append(expected)
            self.assert_checked(expected, (verdict, names, list(arranged)))
        self.assertEqual(seen.count(True), 1)
        wide = Graph(["x", "y", "z"])
        probabilities = {"x": Ratio(1, 2), "y": Ratio(1, 3), "z": Ratio(1, 5)}
        verdict, names, rows = find_certificate(wide, probabilities)
        more = rows[:1] + [(("z",), Ratio(4, 5)), (("y",), Ratio(2, 3)), (("y", "z"), Ratio(8, 15))] + rows[1:]
        self.assert_checked(True, (verdict, names, more), wide, probabilities)
        self.assert_checked(False, (verdict, names, more[1:2] + more[:1] + more[2:]), wide, probabilities)
        self.assert_checked(False, (verdict, names, more[:3] + more[4:1:-1]), wide, probabilities)

    def test_further_rows(self):
        source = random.Random(89)
        for graph, probabilities in graphs_with_probabilities(30, 89):
            order = source.sample(graph.names(), len(graph))
            sets = [chosen for size in range(len(graph) + 1) for chosen in combinations(graph.names(), size)]
            rows = [(chosen, independence_value(graph, probabilities, subset=chosen)) for chosen in sets]
            verdict = find_certificate(graph, probabilities, order=order)[0]
            self.assert_checked(True, (verdict, order, rows), graph, probabilities)
            self.assert_checked(False, ("positive" if verdict == "not_positive" else "not_positive", order, rows),
                                graph, probabilities)
            self.assert_checked(False, (verdict, order, rows + rows[-1:]), graph, probabilities)
            self.assert_checked(False, (verdict, order, rows + [None]), graph, probabilities)

    def test_prefixes(self):
        half = {"x": Ratio(1, 2), "y": Ratio(1, 2), "z": Ratio(1, 4)}
        rows = [((), Ratio(1)), (("x",), Ratio(1, 2)), (("x", "y"), Ratio(0)), (("x", "y", "z"), Ratio(-1, 8))]
        for count, expected in [(4, True), (3, True), (2, False), (1, False), (0, False)]:
            self.assert_checked(expected, ("not_positive", ["x", "y", "z"], rows[:count]), None, half)
            self.assert_checked(False, ("positive", ["x", "y", "z"], rows[:count]), None, half)
        # A set that is no prefix of the order proves nothing.
        rows = [((), Ratio(1)), (("z",), Ratio(3, 4)), (("y",), Ratio(1, 2)), (("y", "z"), Ratio(1, 4)),
                (("x",), Ratio(1, 2)), (("x", "y"), Ratio(0))]
        self.assert_checked(False, ("not_positive", ["z", "y", "x"], rows), None, half)
        self.assert_checked(True, ("not_positive", ["x", "y", "z"], rows[:1] + rows[4:]), None, half)

    def test_rows_without_the_empty_set(self):
        self.assert_checked(False, ("positive", ["x", "y", "z"], []))
        self.assert_checked(False, ("not_positive", ["x", "y", "z"], []))
        self.assert_checked(False, ("positive", ["x", "y", "z"], [(("x",), Ratio(3, 4))]))
        self.assert_checked(False, ("positive", ["x"], [((), Ratio(2)), (("x",), Ratio(7, 4))]), Graph(["x"]), {"x": Ratio(1, 4)})
        self.assert_checked(False, ("positive", ["x"], [((), Ratio(1, 2)), (("x",), Ratio(3, 8))]), Graph(["x"]),
                            {"x": Ratio(1, 4)})

    def test_other_kinds(self):
        verdict, names, rows = find_certificate(path(), quarters())
        for value in all_values():
            self.assert_checked(False, value)
            for changed in ((value, names, rows), (verdict, value, rows), (verdict, names, value),
                            (verdict, names, rows + [value]), (verdict, names, [value] + rows),
                            (verdict, names[:2] + [value], rows), (verdict, names, rows[:4] + [(value, rows[3][1])]),
                            (verdict, names, rows[:3] + [(("x", "y", "z"), value)]),
                            (verdict, names, rows[:3] + [(("x", "y", value), rows[3][1])])):
                self.assert_checked(False, changed)
        for changed in ([verdict, names, rows], (verdict, names), (verdict, names, rows, rows), (names, verdict, rows),
                        ("Positive", names, rows), ("", names, rows), (verdict, "xyz", rows), (True, names, rows),
                        (verdict, names + ["x"], rows), (verdict, ["x", "y", "u"], rows), (verdict, ["x", "x", "z"], rows),
                        (verdict, names, {0: rows[0]}), (verdict, names[:2], rows), (verdict, names, rows[:3]),
                        (verdict, names, [((), 1)] + rows[1:]), (verdict, names, [((), True)] + rows[1:])):
            self.assert_checked(False, changed)

    def test_a_value_for_other_arguments(self):
        value = find_certificate(path(), quarters())
        self.assert_checked(False, value, Graph(["x", "y", "z"], [("x", "z"), ("y", "z")]))
        self.assert_checked(False, value, Graph(["x", "z", "y"], [("x", "y"), ("y", "z")]))
        self.assert_checked(False, value, None, {"x": Ratio(1, 4), "y": Ratio(1, 4), "z": Ratio(1, 5)})
        self.assertIs(check_certificate(value=value, probabilities=quarters(), graph=path()), True)

    def test_arguments_stay_as_they_are(self):
        value, probabilities = find_certificate(path(), quarters()), quarters()
        copy = (value[0], list(value[1]), list(value[2]))
        check_certificate(path(), probabilities, value)
        lower_bound(path(), probabilities, value)
        self.assertEqual([value, probabilities], [copy, quarters()])


class LowerBound(PackageTest):
    def test_value_of_all_names(self):
        source, seen = random.Random(90), 0
        for graph, probabilities in graphs_with_probabilities(60, 90):
            value = find_certificate(graph, probabilities, order=source.sample(graph.names(), len(graph)))
            if value[0] == "positive":
                found = lower_bound(graph, probabilities, value)
                self.assertEqual([type(found), found.sign()], [Ratio, 1])
                self.assertEqual(found, independence_value(graph, probabilities))
                seen += 1
            else:
                self.assert_error(InvalidCertificate, "value", value, lower_bound, graph, probabilities, value)
        self.assertGreater(seen, 15)

    def test_example(self):
        value = find_certificate(path(), quarters(), order=["y", "x", "z"])
        self.assertEqual(str(lower_bound(value=value, probabilities=quarters(), graph=path())), "5/16")

    def test_no_certificate(self):
        verdict, names, rows = find_certificate(path(), quarters())
        for value in all_values() + [(verdict, names, rows[:-1]), [verdict, names, rows], (verdict, names[::-1], rows[::-1]),
                                     ("not_positive", names, rows), (verdict, names, rows[:3] + [(rows[3][0], Ratio(1, 2))])]:
            self.assert_error(InvalidCertificate, "value", value, lower_bound, path(), quarters(), value)

    def test_wide_ratios(self):
        big = 10 ** 29
        graph = random_graph(random.Random(91), 8)
        probabilities = {name: Ratio(big // 9 + at, 10 * big - at) for at, name in enumerate(graph.names())}
        value = find_certificate(graph, probabilities)
        self.assertEqual(value[0], "positive")
        self.assertEqual(fraction(lower_bound(graph, probabilities, value)),
                         value_by_definition(graph, probabilities, graph.names()))


if __name__ == "__main__":
    unittest.main()
