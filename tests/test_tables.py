import random
import unittest
from fractions import Fraction
from itertools import combinations, product
from math import prod

from resampler.errors import (DuplicateName, InvalidCertificate, InvalidEvents, InvalidGraph, InvalidNames,
                              InvalidProbabilities, InvalidProblem, InvalidTable, InvalidWeights, Mismatch, TooLarge,
                              UnknownName)
from resampler.graphs import Graph, find_certificate, independence_value
from resampler.problems import Problem
from resampler.ratios import Ratio
from resampler.tables import Table, build_table, check_table, find_dependence, table_of
from tests.samples import all_values, non_integers, non_lists, without_kind
from tests.support import (EVENT_NAMES, PackageTest, adjacent, all_assignments, demo, fraction, fresh,
                           graphs_with_probabilities, happens, pair, path, problems, quarters, random_graph)


def example():
    return Table([1, 1, 2], [("x", [0, 1]), ("y", [1])])


def random_table(source, names, size=8):
    """Return a table in which also weights may be 0 and events may be empty."""
    count = source.randint(1, size)
    weights = [source.choice([0, 1, 1, 2, 5]) for _ in range(count)]
    weights[source.randrange(count)] = 3
    return Table(weights, [(name, source.sample(range(count), source.randint(0, count))) for name in names])


def share(table, wanted):
    """Return by the definition the probability of the outcomes for which a function returns true."""
    weights = table.weights()
    return Fraction(sum([weight for at, weight in enumerate(weights) if wanted(at)]), sum(weights))


def joint(table, names):
    outcomes = dict(table.events())
    return share(table, lambda at: all([at in outcomes[name] for name in names]))


def first_dependence(table, graph):
    """Return by the definition what find_dependence is to return, with fractions."""
    for name in graph.names():
        far = [other for other in graph.names() if not adjacent(graph, name, other)]
        for size in range(len(far) + 1):
            for others in combinations(far, size):
                both, product_of_two = joint(table, (name,) + others), joint(table, [name]) * joint(table, others)
                if both != product_of_two:
                    return name, others, both, product_of_two
    return None


def coins(names, chances):
    """Return a table in which each event has a probability of its own, independent of all others."""
    outcomes = list(product([0, 1], repeat=len(names)))
    weights = [prod([one if chosen else whole - one for chosen, (one, whole) in zip(outcome, chances)])
               for outcome in outcomes]
    return Table(weights, [(name, [at for at, outcome in enumerate(outcomes) if outcome[place]])
                           for place, name in enumerate(names)])


def even_numbers(names):
    """Return a table in which an even number of events occurs: all but the last one are coins."""
    outcomes = list(product([0, 1], repeat=len(names)))
    return Table([1 - sum(outcome) % 2 for outcome in outcomes],
                 [(name, [at for at, outcome in enumerate(outcomes) if outcome[place]])
                  for place, name in enumerate(names)])


class Building(PackageTest):
    def test_parts(self):
        table = Table([3, 0, 5], [("y", [2, 0]), ("x", [])])
        self.assertEqual([table.weights(), table.events(), len(table)], [[3, 0, 5], [("y", [0, 2]), ("x", [])], 3])
        self.assertEqual(Table(events=[("y", (0, 2)), ("x", ())], weights=(3, 0, 5)), table)
        self.assertEqual([type(table.weights()), type(table.events()), type(table.events()[0]), type(table.events()[0][1])],
                         [list, list, tuple, list])

    def test_limits(self):
        rows = [(name, list(range(599, -1, -1))) for name in EVENT_NAMES]
        table = Table([10 ** 40] * 600, rows)
        self.assertEqual([len(table), len(table.events()), table.events()[7]], [600, 8, ("t", list(range(600)))])
        self.assertEqual(len(Table([1], [("x", [0])])), 1)

    def test_later_changes_of_the_arguments(self):
        weights, outcomes = [1, 2], [1, 0]
        events = [("x", outcomes), ("y", [1])]
        table = Table(weights, events)
        self.assertEqual([weights, events], [[1, 2], [("x", [1, 0]), ("y", [1])]])
        weights[0] = 5
        outcomes.pop()
        events.append(("z", []))
        self.assertEqual(table, Table([1, 2], [("x", [0, 1]), ("y", [1])]))

    def test_no_list_is_shared_with_the_table(self):
        self.assert_new_lists(example().weights)
        self.assert_new_lists(example().events)
        table = example()
        table.weights()[0] = 9
        table.events()[0][1].append(9)
        self.assertEqual(table, example())

    def test_no_weights(self):
        wrong = [[], [0], [0, 0, 0], [1, -1], [1, True], [False, 1], [1, "1"], [1, None], [1, [1]], [Ratio(1)], "11",
                 [1] * 601, [0] * 600, {0: 1}, (1, 2, -3), [1, 2.0], (0,)]
        for value in non_lists() + wrong + [[value] for value in non_integers()] + [[], ()]:
            self.assert_error(InvalidWeights, "value", value, Table, value, [("x", [0])])
            self.assert_error(InvalidWeights, "value", value, Table, value, 5)

    def test_no_events(self):
        wrong = [[], (), [("x", [0])] * 9, [("x", [0], 1)], [("x",)], [["x", [0]]], [("X", [0])], [("", [0])], [(0, [0])],
                 [("x", 0)], [("x", None)], [("x", "0")], [("x", {0: 0})], [("x", [2])], [("x", [-1])], [("x", [0, 0])],
                 [("x", [True])], [("x", [0, False])], [("x", ["0"])], [("x", [[0]])], [("x", [(0,)])], [("x", [None])],
                 [("x", [0]), ("x", [2])], [("x", [0]), None], [("x", [0]), ("y", [0, 1, 0])], {"x": [0]}, "x",
                 [("x", [0, 1, 2])], [("abcdefghi", [])], [("x", list(range(600)))], [("x", [Ratio(0)])]]
        for value in all_values() + wrong:
            self.assert_error(InvalidEvents, "value", value, Table, [1, 1], value)

    def test_duplicates(self):
        first, second = fresh("same"), fresh("same")
        self.assert_error(DuplicateName, "name", first, Table, [1], [("same", []), ("y", [0]), (first, []), (second, [0])])
        events = [("x", []), ("x", [1])]
        self.assert_error(InvalidEvents, "value", events, Table, [1], events)


class Reading(PackageTest):
    def test_equal_tables(self):
        for table in (Table([1, 1, 2], [("x", [1, 0]), ("y", [1])]), Table((1, 1, 2), (("x", (0, 1)), ("y", (1,))))):
            self.assertIs(table == example(), True)
            self.assertIs(table != example(), False)

    def test_other_tables(self):
        tables = [example(), Table([2, 2, 4], example().events()), Table([1, 1, 2], [("y", [1]), ("x", [0, 1])]),
                  Table([1, 1, 2], [("x", [0, 1])]), Table([1, 1, 2], [("x", [0, 1]), ("z", [1])]),
                  Table([1, 1, 2], [("x", [0, 1]), ("y", [2])]), Table([1, 1, 2, 0], example().events())]
        for at, one in enumerate(tables):
            for place, other in enumerate(tables):
                self.assertIs(one == other, at == place)
        for value in without_kind(Table):
            self.assertIs(example() == value, False)
            self.assertIs(value == example(), False)
        self.assertIsInstance(repr(example()), str)

    def test_example(self):
        table = example()
        self.assertEqual([str(table.probability("x")), str(table.joint_probability(["x", "y"])),
                          str(table.none_probability())], ["1/2", "1/4", "1/2"])
        self.assertEqual([table.probability(name="x"), table.joint_probability(names=["y"])], [Ratio(1, 2), Ratio(1, 4)])

    def test_by_the_definition(self):
        source = random.Random(100)
        for _ in range(80):
            table = random_table(source, EVENT_NAMES[:source.randint(1, 4)])
            names = [name for name, _ in table.events()]
            for name, outcomes in table.events():
                self.assertEqual(fraction(table.probability(name)), share(table, lambda at: at in outcomes))
            for _ in range(6):
                chosen = source.sample(names, source.randint(0, len(names)))
                for given in (chosen, tuple(chosen)):
                    self.assertEqual(fraction(table.joint_probability(given)), joint(table, chosen))
            lists = [outcomes for _, outcomes in table.events()]
            expected = share(table, lambda at: not any([at in outcomes for outcomes in lists]))
            self.assertEqual(fraction(table.none_probability()), expected)
            for value in (table.probability(names[0]), table.joint_probability(names), table.none_probability()):
                self.assertIs(type(value), Ratio)

    def test_no_names(self):
        self.assertEqual([example().joint_probability([]), example().joint_probability(())], [Ratio(1), Ratio(1)])

    def test_names_are_no_list(self):
        for value in non_lists() + [["x"] * 9, [5] * 9, ("x",) * 20, "x"]:
            self.assert_error(InvalidNames, "value", value, example().joint_probability, value)

    def test_unknown_names(self):
        for value in all_values() + ["X", "z"]:
            self.assert_error(UnknownName, "name", value, example().probability, value)
            for names in ([value], ["x", value, "x"], ("y", value, None)):
                self.assert_error(UnknownName, "name", value, example().joint_probability, names)

    def test_duplicates(self):
        table, name = Table([1], [("same", [0]), ("other", [])]), fresh("same")
        self.assert_error(DuplicateName, "name", name, table.joint_probability, ["same", "other", name, "u"])


class FindDependence(PackageTest):
    def test_by_the_definition(self):
        source, kinds = random.Random(101), []
        for _ in range(200):
            graph = random_graph(source, source.randint(1, 4), source.choice([0, 0.3, 0.6, 0.9]))
            chances = [(source.randint(0, 3), 3) for _ in graph.names()]
            # Events that are independent in most cases, and such that are not.
            table = coins(graph.names(), chances)
            if source.random() < 0.5:
                weights = table.weights()
                weights[source.randrange(len(weights))] += 1
                table = Table(weights, table.events())
            elif source.random() < 0.3:
                table = random_table(source, graph.names())
            elif source.random() < 0.5:
                table = even_numbers(graph.names())
            found, expected = find_dependence(table, graph), first_dependence(table, graph)
            if expected is None:
                self.assertIsNone(found)
                kinds.append(None)
                continue
            self.assertEqual([type(found), type(found[1]), type(found[2]), type(found[3])], [tuple, tuple, Ratio, Ratio])
            self.assertEqual((found[0], found[1], fraction(found[2]), fraction(found[3])), expected)
            kinds.append(len(found[1]))
        for kind in (None, 1, 2):
            self.assertGreater(kinds.count(kind), 5)

    def test_example(self):
        self.assertEqual(find_dependence(example(), Graph(["x", "y"])), ("x", ("y",), Ratio(1, 4), Ratio(1, 8)))
        self.assertIsNone(find_dependence(graph=Graph(["x", "y"], [("x", "y")]), table=example()))

    def test_only_three_together(self):
        # Any two of the events are independent of each other, but each is determined by the other two.
        table = Table([1, 1, 1, 1], [("z", [0, 1]), ("x", [0, 2]), ("y", [0, 3])])
        names = ["z", "x", "y"]
        self.assertEqual(find_dependence(table, Graph(names)), ("z", ("x", "y"), Ratio(1, 4), Ratio(1, 8)))
        self.assertIsNone(find_dependence(table, Graph(names, [("x", "y"), ("y", "z")])))
        self.assertEqual(find_dependence(table, Graph(names, [("x", "y")])), ("z", ("x", "y"), Ratio(1, 4), Ratio(1, 8)))

    def test_order_of_sets(self):
        table = Table([1, 1], [("u", [0]), ("x", []), ("y", [0]), ("z", [1]), ("v", [0, 1])])
        names = ["u", "x", "y", "z", "v"]
        self.assertEqual(find_dependence(table, Graph(names))[:2], ("u", ("y",)))
        self.assertEqual(find_dependence(table, Graph(names, [("u", "y")]))[:2], ("u", ("z",)))
        self.assertEqual(find_dependence(table, Graph(names, [("u", "y"), ("z", "u")]))[:2], ("y", ("z",)))

    def test_certain_and_impossible_events(self):
        table = Table([1, 2], [("x", [0, 1]), ("y", []), ("z", [1])])
        self.assertIsNone(find_dependence(table, Graph(["x", "y", "z"])))

    def test_other_names(self):
        for graph in (Graph(["y", "x"]), Graph(["x"]), Graph(["x", "y", "z"]), Graph(["x", "z"])):
            self.assert_error(Mismatch, "value", graph, find_dependence, example(), graph)

    def test_order_of_checks(self):
        for value in without_kind(Table):
            self.assert_error(InvalidTable, "value", value, find_dependence, value, Graph(["x", "y"]))
            self.assert_error(InvalidTable, "value", value, find_dependence, value, 5)
        for value in without_kind(Graph):
            self.assert_error(InvalidGraph, "value", value, find_dependence, example(), value)


class TableOf(PackageTest):
    def test_by_the_definition(self):
        for problem in problems(80, 102):
            if len(problem):
                assignments, table = all_assignments(problem), table_of(problem)
                self.assertEqual(table.weights(), [1] * len(assignments))
                self.assertEqual(table.events(), [(event, [at for at, assignment in enumerate(assignments)
                                                           if happens(problem, event, assignment)])
                                                  for event in problem.events()])
                for event in problem.events():
                    self.assertEqual(table.probability(event), problem.probability(event))

    def test_examples(self):
        self.assertEqual(table_of(demo()), Table([1] * 8, [("x", [0, 1]), ("y", [3, 7])]))
        self.assertEqual(table_of(problem=pair()), Table([1] * 4, [("x", [2, 3]), ("y", [1, 3])]))

    def test_sizes(self):
        for sizes, count in [((6, 5, 5, 4), 600), ((1, 1), 1)]:
            problem = Problem(list(zip("abcd", sizes)), [("x", ["b"], [(0,)])])
            self.assertEqual(len(table_of(problem)), count)
        for sizes, count in [((6, 5, 5, 5), 750), ((5, 5, 5, 5), 625), ((6,) * 8, 6 ** 8)]:
            problem = Problem(list(zip("abcdefgh", sizes)), [("x", ["b"], [(0,)])])
            self.assert_number(TooLarge, "count", count, table_of, problem)

    def test_problems_without_events(self):
        for problem in (Problem([("a", 2)]), Problem([(name, 6) for name in "abcdefgh"])):
            with self.assertRaises(InvalidEvents) as context:
                table_of(problem)
            self.assertEqual(context.exception.value, [])

    def test_no_problem(self):
        for value in without_kind(Problem):
            self.assert_error(InvalidProblem, "value", value, table_of, value)


def bad_cases(count, seed, most=6):
    """Return graphs with probabilities and certificates that are not positive, of many orders."""
    source, found = random.Random(seed), []
    for graph, probabilities in graphs_with_probabilities(count, seed, most):
        value = find_certificate(graph, probabilities, order=source.sample(graph.names(), len(graph)))
        if value[0] == "not_positive":
            found.append((graph, probabilities, value))
    return found


class BuildTable(PackageTest):
    def assert_table(self, graph, probabilities, table):
        """Check by the definition that a table shows that the events cannot always be avoided."""
        self.assertIs(type(table), Table)
        self.assertEqual([name for name, _ in table.events()], graph.names())
        self.assertLessEqual(len(table), 512)
        for name in graph.names():
            self.assertEqual(table.probability(name), probabilities[name])
        self.assertEqual(table.none_probability(), Ratio(0))
        self.assertIsNone(first_dependence(table, graph))

    def test_by_the_definition(self):
        seen = []
        for graph, probabilities, value in bad_cases(150, 103):
            self.assert_table(graph, probabilities, build_table(graph, probabilities, value))
            seen.append((len(value[2][-1][0]) < len(graph), value[2][-1][1].sign()))
        for kind in ((True, 0), (True, -1), (False, 0), (False, -1)):
            self.assertGreater(seen.count(kind), 5)

    def test_example(self):
        graph, half = Graph(["x", "y"], [("x", "y")]), Ratio(1, 2)
        value = find_certificate(graph, {"x": half, "y": half})
        table = build_table(graph, {"x": half, "y": half}, value)
        self.assertEqual(str(table.none_probability()), "0")
        self.assertEqual(build_table(value=value, graph=graph, probabilities={"y": half, "x": half}), table)
        self.assert_table(graph, {"x": half, "y": half}, table)

    def test_certain_events(self):
        for names in (["x"], ["y", "x"], EVENT_NAMES):
            graph = Graph(names)
            probabilities = {name: Ratio(1) for name in names}
            self.assert_table(graph, probabilities, build_table(graph, probabilities, find_certificate(graph, probabilities)))

    def test_coins(self):
        # The value is below 0 already for x and y, so y gets a coin; u and z are later, u is certain and z impossible.
        graph = Graph(["u", "z", "x", "y"], [("x", "y"), ("y", "z"), ("u", "z")])
        probabilities = {"u": Ratio(1), "z": Ratio(0), "x": Ratio(2, 3), "y": Ratio(3, 4)}
        value = find_certificate(graph, probabilities, order=["x", "y", "z", "u"])
        self.assertEqual(len(value[2][-1][0]), 2)
        self.assert_table(graph, probabilities, build_table(graph, probabilities, value))

    def test_certificates_with_further_rows(self):
        for graph, probabilities, (verdict, order, rows) in bad_cases(30, 104, most=4):
            sets = [chosen for size in range(len(graph) + 1) for chosen in combinations(graph.names(), size)]
            rows = [(chosen, independence_value(graph, probabilities, subset=chosen)) for chosen in sets]
            self.assert_table(graph, probabilities, build_table(graph, probabilities, (verdict, tuple(order), tuple(rows))))

    def test_wide_ratios(self):
        source, big = random.Random(105), 10 ** 29
        for share_of_edges in (0.2, 0.5, 0.8):
            graph = random_graph(source, 6, share_of_edges)
            probabilities = {name: Ratio(source.randint(5 * big, 8 * big), 9 * big + 1) for name in graph.names()}
            value = find_certificate(graph, probabilities)
            if value[0] == "not_positive":
                self.assert_table(graph, probabilities, build_table(graph, probabilities, value))

    def test_no_certificate(self):
        ones = {"x": Ratio(1), "y": Ratio(1), "z": Ratio(1)}
        verdict, order, rows = find_certificate(path(), ones)
        for value in all_values() + [[verdict, order, rows], ("positive", order, rows), (verdict, order, rows[:-1]),
                                     (verdict, ["x", "y"], rows), (verdict, order, rows[:-1] + [(("x",), Ratio(-1))])]:
            self.assert_error(InvalidCertificate, "value", value, build_table, path(), ones, value)
        value = find_certificate(path(), quarters())
        self.assert_error(InvalidCertificate, "value", value, build_table, path(), quarters(), value)

    def test_order_of_checks(self):
        for value in without_kind(Graph):
            self.assert_error(InvalidGraph, "value", value, build_table, value, 5, 5)
        for value in all_values():
            self.assert_error(InvalidProbabilities, "value", value, build_table, path(), value, 5)


class CheckTable(PackageTest):
    def test_tables_that_are_built(self):
        source = random.Random(106)
        for graph, probabilities, value in bad_cases(100, 107):
            table = build_table(graph, probabilities, value)
            self.assertIs(check_table(graph, probabilities, table), True)
            # The weights count in relation to each other only, and outcomes may come in any order.
            order = source.sample(range(len(table)), len(table))
            weights, outcomes = table.weights(), dict(table.events())
            other = Table([3 * weights[at] for at in order] + [0],
                          [(name, [order.index(at) for at in outcomes[name]]) for name in graph.names()])
            self.assertIs(check_table(graph, probabilities, other), True)

    def test_changed_weights(self):
        for graph, probabilities, value in bad_cases(40, 108):
            table = build_table(graph, probabilities, value)
            for at in range(len(table)):
                weights = table.weights()
                weights[at] += sum(weights)
                other = Table(weights, table.events())
                expected = (first_dependence(other, graph) is None and other.none_probability() == Ratio(0)
                            and all([other.probability(name) == probabilities[name] for name in graph.names()]))
                self.assertIs(check_table(graph, probabilities, other), expected)

    def test_each_condition(self):
        graph, half, third = Graph(["x", "y"], [("x", "y")]), Ratio(1, 2), Ratio(1, 3)
        probabilities = {"x": half, "y": half}
        good = Table([1, 1], [("x", [0]), ("y", [1])])
        self.assertIs(check_table(value=good, graph=graph, probabilities=probabilities), True)
        self.assertIs(check_table(Graph(["x", "y"]), probabilities, good), False)
        self.assertIs(check_table(Graph(["y", "x"], [("x", "y")]), probabilities, good), False)
        self.assertIs(check_table(graph, {"x": half, "y": third}, good), False)
        self.assertIs(check_table(graph, {"x": third, "y": half}, good), False)
        self.assertIs(check_table(graph, probabilities, Table([1, 1], [("x", [0]), ("y", [0])])), False)
        self.assertIs(check_table(graph, probabilities, Table([1, 1], [("y", [1]), ("x", [0])])), False)
        self.assertIs(check_table(graph, probabilities, Table([1, 1], [("x", [0]), ("z", [1])])), False)
        self.assertIs(check_table(graph, probabilities, Table([1, 1], [("x", [0])])), False)
        self.assertIs(check_table(graph, probabilities, Table([1, 1], [("x", [0]), ("y", [1]), ("z", [])])), False)
        self.assertIs(check_table(graph, {"x": half, "y": Ratio(1)}, Table([1, 1], [("x", [0]), ("y", [0, 1])])), True)
        self.assertIs(check_table(graph, probabilities, Table([1, 1, 0], [("x", [0]), ("y", [1])])), True)
        self.assertIs(check_table(graph, probabilities, Table([1, 1, 1, 1], [("x", [0, 1]), ("y", [0, 2])])), False)

    def test_other_kinds(self):
        graph = Graph(["x"])
        for value in all_values() + [[1], ([1], [("x", [0])]), Graph(["x"])]:
            self.assertIs(check_table(graph, {"x": Ratio(1)}, value), False)
        self.assertIs(check_table(graph, {"x": Ratio(1)}, Table([1], [("x", [0])])), True)

    def test_order_of_checks(self):
        for value in without_kind(Graph):
            self.assert_error(InvalidGraph, "value", value, check_table, value, 5, 5)
        for value in all_values():
            self.assert_error(InvalidProbabilities, "value", value, check_table, path(), value, 5)


if __name__ == "__main__":
    unittest.main()
