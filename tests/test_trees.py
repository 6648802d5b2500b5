import random
import unittest

from resampler.errors import (InvalidHistory, InvalidInteger, InvalidPieces, InvalidProblem, InvalidTapes, InvalidTree,
                              TooLarge)
from resampler.problems import Problem
from resampler.sampler import Sampler, run_sampler
from resampler.trees import check_tree, fits_tapes, tree_values, witness_tree, witness_trees
from tests.samples import all_values, non_integers_from, non_lists, without_kind
from tests.support import (VARIABLE_NAMES, PackageTest, demo, long_names, pair, pieces_of, problems, random_history,
                           random_tapes, shares)

X, Y = ("x", (0, 0)), ("y", (1, 1))
HISTORY = [X, Y, X]
ROWS = [(0, "x", (0, 0), None), (1, "y", (1, 1), 0), (2, "x", (0, 0), 1)]
TAPES = {"a": [0, 0], "b": [0, 1, 0], "c": [1]}


def row_of_events():
    """Return a problem in which each of five events is adjacent to the next one only."""
    return Problem([(name, 2) for name in "abcdef"],
                   [(name, [one, other], [(0, 1), (1, 0)]) for name, one, other in
                    [("v", "a", "b"), ("w", "b", "c"), ("x", "c", "d"), ("y", "d", "e"), ("z", "e", "f")]])


def tree_by_definition(problem, history, step):
    rows = [(0,) + history[step] + (None,)]
    for event, values in history[:step][::-1]:
        near = [at for at, row in enumerate(rows) if shares(problem, event, row[1])]
        if near:
            depth = max([rows[at][0] for at in near])
            parent = [at for at in near if rows[at][0] == depth][0]
            rows.append((depth + 1, event, values, parent))
    return rows


def cases(count, seed, length=9):
    source, found = random.Random(seed), []
    for problem in problems(count, seed) + [demo(), pair(), row_of_events(), long_names()] * (count // 10):
        history = random_history(source, problem, source.randint(1, length))
        if history:
            found.append((problem, history))
    return found


def changed_rows(rows):
    """Return lists that are no tree any more: one item of a tree is another one."""
    found = []
    for at, (depth, event, values, parent) in enumerate(rows):
        others = [(depth + 1, event, values, parent), (depth - 1, event, values, parent), (str(depth), event, values, parent),
                  (depth, event, values, 0 if parent is None else None), (depth, event, values, at), (depth, event, values),
                  (depth, event, values, parent, 0), [depth, event, values, parent], (depth, event, list(values), parent),
                  (depth, event, values[:-1], parent), (depth, "q", values, parent), (depth, [event], values, parent),
                  (depth, event, values, str(parent)), (depth, event, tuple([bool(value) for value in values]), parent),
                  None, event, (depth, (event, values), parent), (None, event, values, parent), (depth, event, None, parent)]
        if depth == 0:
            others.append((False, event, values, parent))
        if depth == 1:
            others.append((True, event, values, parent))
        if parent in (0, 1):
            others.append((depth, event, values, bool(parent)))
        found.extend([rows[:at] + [other] + rows[at + 1:] for other in others])
    return found


class WitnessTree(PackageTest):
    def test_example(self):
        self.assertEqual(witness_tree(demo(), HISTORY, 2), ROWS)
        self.assertEqual(witness_tree(step=2, history=tuple(HISTORY), problem=demo()), ROWS)
        self.assertEqual(witness_tree(demo(), HISTORY, 0), ROWS[:1])

    def test_by_the_definition(self):
        for problem, history in cases(150, 110, length=12):
            for step in range(len(history)):
                self.assertEqual(witness_tree(problem, history, step), tree_by_definition(problem, history, step))

    def test_parents(self):
        v, w, x, y, z = [(name, (0, 1)) for name in "vwxyz"]
        # The first one of two rows of the greatest depth is the parent.
        self.assertEqual(witness_tree(row_of_events(), [x, w, y, x], 3),
                         [(0,) + x + (None,), (1,) + y + (0,), (1,) + w + (0,), (2,) + x + (1,)])
        # A deeper row that comes later is the parent, not the first row.
        self.assertEqual(witness_tree(row_of_events(), [v, w, v, w], 3),
                         [(0,) + w + (None,), (1,) + v + (0,), (2,) + w + (1,), (3,) + v + (2,)])
        # Skipped pieces leave no trace, even if they are adjacent to one another.
        self.assertEqual(witness_tree(row_of_events(), [z, y, z, v], 3), [(0,) + v + (None,)])
        self.assertEqual(witness_tree(row_of_events(), [y, z, x, w, v], 4),
                         [(0,) + v + (None,), (1,) + w + (0,), (2,) + x + (1,), (3,) + y + (2,)])

    def test_rows_of_equal_depth_are_not_adjacent(self):
        for problem, history in cases(100, 111, length=15):
            for rows in witness_trees(problem, history):
                for at, row in enumerate(rows):
                    for other in rows[:at]:
                        self.assertFalse(row[0] == other[0] and shares(problem, row[1], other[1]))

    def test_later_pieces_have_no_effect(self):
        for problem, history in cases(40, 112):
            for step in range(len(history)):
                self.assertEqual(witness_tree(problem, history[:step + 1], step), witness_tree(problem, history, step))

    def test_longest_history(self):
        rows = witness_tree(demo(), [X] * 240, 239)
        self.assertEqual([len(rows), rows[239]], [240, (239, "x", (0, 0), 238)])

    def test_new_lists(self):
        self.assert_new_lists(lambda: witness_tree(demo(), HISTORY, 2))
        history = list(HISTORY)
        rows = witness_tree(demo(), history, 2)
        self.assertEqual(history, HISTORY)
        history[0] = Y
        self.assertEqual(rows, ROWS)


class WitnessTrees(PackageTest):
    def test_all_steps(self):
        for problem, history in cases(60, 113):
            expected = [witness_tree(problem, history, step) for step in range(len(history))]
            self.assertEqual(witness_trees(problem, history), expected)
            self.assertEqual(witness_trees(history=tuple(history), problem=problem), expected)

    def test_no_steps(self):
        self.assertEqual([witness_trees(demo(), []), witness_trees(demo(), ())], [[], []])

    def test_trees_differ(self):
        for problem, history in cases(100, 114, length=15):
            trees = witness_trees(problem, history)
            self.assertEqual(len({tuple(rows) for rows in trees}), len(history))

    def test_new_lists(self):
        self.assert_new_lists(lambda: witness_trees(demo(), HISTORY))


class WrongArguments(PackageTest):
    ACTIONS = [lambda problem, history: witness_tree(problem, history, 0), witness_trees,
               lambda problem, history: check_tree(problem, history, 0, ROWS)]

    def test_no_problem(self):
        for action in self.ACTIONS:
            for value in without_kind(Problem):
                self.assert_error(InvalidProblem, "value", value, action, value, HISTORY)
                self.assert_error(InvalidProblem, "value", value, action, value, 5)
        for value in without_kind(Problem):
            self.assert_error(InvalidProblem, "value", value, tree_values, value, 5)
            self.assert_error(InvalidProblem, "value", value, fits_tapes, value, 5, 5)

    def test_no_pieces(self):
        for action in self.ACTIONS:
            for value in non_lists() + [[X] * 241, [5] * 250, (X,) * 241]:
                self.assert_error(InvalidPieces, "value", value, action, demo(), value)

    def test_no_history(self):
        for action in self.ACTIONS:
            for value in all_values() + [("x", (1, 1)), ["x", (0, 0)], ("x", [0, 0]), ("x", (False, 0)), ("x", (0, 0), 0),
                                         ("y", (True, 1)), ("a", (0, 0)), ("x",)]:
                for index in (0, 2):
                    history = [X, Y][:index] + [value, X, None]
                    self.assert_number(InvalidHistory, "index", index, action, demo(), history)
                    self.assert_number(InvalidHistory, "index", index, action, demo(), tuple(history))

    def test_no_step(self):
        for value in non_integers_from(0, 2):
            self.assert_error(InvalidInteger, "value", value, witness_tree, demo(), HISTORY, value)
            self.assert_error(InvalidInteger, "value", value, check_tree, demo(), HISTORY, value, ROWS)
        self.assert_error(InvalidInteger, "value", 0, witness_tree, demo(), [], 0)
        self.assert_error(InvalidInteger, "value", 0, check_tree, demo(), (), 0, [])
        self.assert_number(InvalidHistory, "index", 1, witness_tree, demo(), [X, 5], 5)


def values_by_definition(problem, rows):
    found = []
    for depth, event, values, _ in rows:
        for variable, value in zip(problem.scope(event), values):
            below = [row for row in rows if row[0] > depth and variable in problem.scope(row[1])]
            found.append((variable, len(below), value))
    return found


class TreeValues(PackageTest):
    def test_example(self):
        rows = [(0, "y", (1, 1), None), (1, "x", (0, 0), 0)]
        expected = [("b", 1, 1), ("c", 0, 1), ("a", 0, 0), ("b", 0, 0)]
        self.assertEqual(tree_values(demo(), rows), expected)
        self.assertEqual(tree_values(rows=tuple(rows), problem=demo()), expected)

    def test_by_the_definition(self):
        for problem, history in cases(100, 115):
            for rows in witness_trees(problem, history):
                self.assertEqual(tree_values(problem, rows), values_by_definition(problem, rows))

    def test_positions_on_the_tapes_of_samplers(self):
        source, seen = random.Random(116), 0
        for problem in problems(150, 116):
            tapes = random_tapes(source, problem, longest=9)
            sampler = Sampler(problem, tapes)
            run_sampler(sampler, source.choice)
            trees, places = witness_trees(problem, sampler.history()), {name: 0 for name in tapes}
            for rows, (event, values) in zip(trees, sampler.history()):
                scope, found = problem.scope(event), tree_values(problem, rows)
                # The step itself stands first; it drops the values at these places of the tapes.
                self.assertEqual(found[:len(scope)], [(variable, places[variable], value)
                                                      for variable, value in zip(scope, values)])
                for variable in scope:
                    places[variable] += 1
                for variable, position, value in found:
                    self.assertEqual(tapes[variable][position], value)
                    seen += 1
        self.assertGreater(seen, 500)

    def test_new_lists(self):
        self.assert_new_lists(lambda: tree_values(demo(), ROWS))

    def test_any_tree_of_any_history(self):
        # A list of rows is a tree exactly if it is the tree of its own pieces in reverse order.
        for problem, history in cases(60, 117):
            for rows in witness_trees(problem, history):
                own = [(event, values) for _, event, values, _ in rows][::-1]
                self.assertEqual(witness_tree(problem, own, len(own) - 1), rows)

    def test_no_tree(self):
        wrong = [[], (), ROWS[1:], ROWS[::-1], ROWS + ROWS[:1], ROWS[:1] + ROWS[2:], [ROWS], {0: ROWS[0]}, "x",
                 [(0, "x", (0, 0), None), (1, "x", (0, 0), None)], [(0, "x", (0, 0), None), (2, "x", (0, 0), 0)],
                 [(1, "x", (0, 0), None)], [(0, "x", (0, 0), 0)], [(0, "x", (1, 1), None)], [(0, "q", (0, 0), None)],
                 [(0, "x", (0, 0), None), (1, "y", (1, 1), 0), (1, "x", (0, 0), 0)]]
        for value in all_values() + wrong + [[value] for value in all_values()] + changed_rows(ROWS):
            self.assert_error(InvalidTree, "value", value, tree_values, demo(), value)
            self.assert_error(InvalidTree, "value", value, fits_tapes, demo(), TAPES, value)

    def test_changed_trees(self):
        for problem, history in cases(25, 118, length=5):
            rows = witness_tree(problem, history, len(history) - 1)
            for value in changed_rows(rows):
                self.assert_error(InvalidTree, "value", value, tree_values, problem, value)

    def test_other_problems(self):
        self.assert_error(InvalidTree, "value", ROWS, tree_values, long_names(), ROWS)
        apart = Problem([("a", 2), ("b", 2), ("c", 2), ("d", 2)], [("x", ["a", "b"], [(0, 0)]), ("y", ["d", "c"], [(1, 1)])])
        self.assert_error(InvalidTree, "value", ROWS, tree_values, apart, ROWS)

    def test_number_of_rows(self):
        rows = [(depth, "x", (0, 0), None if depth == 0 else depth - 1) for depth in range(241)]
        self.assertEqual(tree_values(demo(), rows[:240])[-1], ("b", 0, 0))
        self.assert_error(InvalidTree, "value", rows, tree_values, demo(), rows)


class CheckTree(PackageTest):
    def test_trees(self):
        for problem, history in cases(60, 119):
            trees = witness_trees(problem, history)
            for step, rows in enumerate(trees):
                for place, value in enumerate(trees):
                    self.assertIs(check_tree(problem, history, step, value), place == step)
                self.assertIs(check_tree(problem, history, step, tuple(rows)), True)
                self.assertIs(check_tree(problem, tuple(history), step, rows[::-1]), len(rows) == 1)
        self.assertIs(check_tree(value=ROWS, step=2, history=HISTORY, problem=demo()), True)

    def test_other_kinds(self):
        for value in all_values() + changed_rows(ROWS) + [[], ROWS[:-1], ROWS + [ROWS[-1]], ROWS + [None], [ROWS],
                                                          ROWS * 83 + ROWS[:1], [None] * 250, {0: ROWS[0]}]:
            self.assertIs(check_tree(demo(), HISTORY, 2, value), False)

    def test_true_and_false_are_no_integers(self):
        problem = Problem([("a", 2), ("b", 2)], [("x", ["a", "b"], [(0, 1)])])
        history = [("x", (0, 1))] * 2
        rows = [(0, "x", (0, 1), None), (1, "x", (0, 1), 0)]
        self.assertIs(check_tree(problem, history, 1, rows), True)
        for value in ([(False,) + rows[0][1:], rows[1]], [rows[0], (True,) + rows[1][1:]], [rows[0], rows[1][:3] + (False,)],
                      [(0, "x", (False, 1), None), rows[1]], [(0, "x", (0, True), None), rows[1]]):
            self.assertEqual(value, rows)
            self.assertIs(check_tree(problem, history, 1, value), False)
            self.assert_error(InvalidTree, "value", value, tree_values, problem, value)


class FitsTapes(PackageTest):
    def test_example(self):
        self.assertIs(fits_tapes(demo(), TAPES, ROWS), True)
        self.assertIs(fits_tapes(demo(), {"a": [0, 0], "b": [0, 1], "c": [1]}, ROWS), False)
        self.assertIs(fits_tapes(rows=tuple(ROWS), tapes={"c": (1,), "b": (0, 1, 0), "a": (0, 0)}, problem=demo()), True)

    def test_trees_of_samplers(self):
        source, seen = random.Random(120), 0
        for problem in problems(120, 120):
            tapes = random_tapes(source, problem, longest=9)
            sampler = Sampler(problem, tapes)
            run_sampler(sampler, source.choice)
            for rows in witness_trees(problem, sampler.history()):
                self.assertIs(fits_tapes(problem, tapes, rows), True)
                seen += 1
        self.assertGreater(seen, 100)

    def test_by_the_definition(self):
        source, seen = random.Random(121), []
        for problem, history in cases(150, 121, length=3):
            tapes = random_tapes(source, problem, longest=4)
            for rows in witness_trees(problem, history):
                expected = all([position < len(tapes[variable]) and tapes[variable][position] == value
                                for variable, position, value in values_by_definition(problem, rows)])
                seen.append(expected)
                self.assertIs(fits_tapes(problem, tapes, rows), expected)
        self.assertGreater(min(seen.count(True), seen.count(False)), 20)

    def test_each_value(self):
        for name, place in [("a", 0), ("a", 1), ("b", 0), ("b", 1), ("b", 2), ("c", 0)]:
            tapes = {variable: list(tape) for variable, tape in TAPES.items()}
            tapes[name][place] = 1 - tapes[name][place]
            self.assertIs(fits_tapes(demo(), tapes, ROWS), False)
        self.assertIs(fits_tapes(demo(), {name: tape + [0, 1] for name, tape in TAPES.items()}, ROWS), True)

    def test_no_tapes(self):
        for value in all_values() + [{"a": [0], "b": [0]}, {"a": [0], "b": [2], "c": [0]}, {"a": [0], "b": [True], "c": [0]}]:
            self.assert_error(InvalidTapes, "value", value, fits_tapes, demo(), value, ROWS)
            self.assert_error(InvalidTapes, "value", value, fits_tapes, demo(), value, 5)
        problem = Problem([(name, 2) for name in VARIABLE_NAMES], [("x", ["a"], [(0,)])])
        self.assert_number(TooLarge, "count", 320, fits_tapes, problem, {name: [0] * 40 for name in VARIABLE_NAMES}, 5)

    def test_arguments_stay_as_they_are(self):
        tapes, rows = {name: list(tape) for name, tape in TAPES.items()}, list(ROWS)
        fits_tapes(demo(), tapes, rows)
        self.assertEqual([tapes, rows], [TAPES, ROWS])
        self.assertEqual(pieces_of(demo()), [X, Y])


if __name__ == "__main__":
    unittest.main()
