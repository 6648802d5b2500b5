"""What the tests share."""

import random
import time
import unittest
from fractions import Fraction
from itertools import combinations, product

from resampler.graphs import Graph
from resampler.heaps import Heap
from resampler.problems import Problem
from resampler.ratios import Ratio

VARIABLE_NAMES = ["a", "b", "c", "d", "e", "f", "g", "h"]
EVENT_NAMES = ["x", "y", "z", "u", "v", "w", "s", "t"]


class PackageTest(unittest.TestCase):
    def assert_error(self, kind, field, held, action, *arguments, **more):
        """Check that a call raises an exception with this very object in its field."""
        with self.assertRaises(kind) as context:
            action(*arguments, **more)
        self.assertIs(type(context.exception), kind)
        self.assertIs(getattr(context.exception, field), held)

    def assert_number(self, kind, field, number, action, *arguments, **more):
        """Check that a call raises an exception with this integer in its field."""
        with self.assertRaises(kind) as context:
            action(*arguments, **more)
        self.assertIs(type(context.exception), kind)
        self.assertIs(type(getattr(context.exception, field)), int)
        self.assertEqual(getattr(context.exception, field), number)

    def assert_plain(self, kind, action, *arguments, **more):
        """Check that a call raises an exception that has no field."""
        with self.assertRaises(kind) as context:
            action(*arguments, **more)
        self.assertIs(type(context.exception), kind)

    def assert_new_lists(self, action):
        """Check that the lists and dicts in what a call returns are new each time, inner ones too."""
        one, other = action(), action()
        self.assertEqual(one, other)
        found = lists_in(one) + lists_in(other)
        self.assertEqual(len({id(value) for value in found}), len(found))
        for value in lists_in(one):
            value.clear()
        self.assertEqual(action(), other)

    def timed(self, action, *arguments, **more):
        """Return what a call returns, and check that it takes less than a second."""
        start = time.perf_counter()
        result = action(*arguments, **more)
        self.assertLess(time.perf_counter() - start, 1)
        return result


def lists_in(value):
    """Return the lists and dicts in a value, itself included; all are to have items, to be told apart."""
    if isinstance(value, dict):
        return [value] + [inner for item in value.values() for inner in lists_in(item)]
    if isinstance(value, (list, tuple)):
        inside = [inner for item in value for inner in lists_in(item)]
        return [value] + inside if isinstance(value, list) else inside
    return []


def fresh(text):
    """Return an equal string of two or more letters that is another object."""
    return "".join(list(text))


def demo():
    return Problem([("a", 2), ("b", 2), ("c", 2)], [("x", ["a", "b"], [(0, 0)]), ("y", ["b", "c"], [(1, 1)])])


def pair():
    return Problem([("a", 2), ("b", 2)], [("x", ["a"], [(1,)]), ("y", ["b"], [(1,)])])


def long_names():
    """Return a problem whose names are long enough to have equals that are other objects."""
    return Problem([("left", 2), ("right", 3)], [("both", ["right", "left"], [(2, 1), (0, 0)]),
                                                 ("low", ["left"], [(1,)]), ("never", ["right"], [])])


def names_of(problem):
    return [name for name, _ in problem.variables()]


def rows_of(problem):
    return [(event, problem.scope(event), problem.bad_tuples(event)) for event in problem.events()]


def all_assignments(problem):
    return list(product(*[range(size) for _, size in problem.variables()]))


def values_of_scope(problem, event, assignment):
    places = [name for name, _ in problem.variables()]
    return tuple([assignment[places.index(variable)] for variable in problem.scope(event)])


def happens(problem, event, assignment):
    """Tell by the definition whether an event occurs in an assignment."""
    return values_of_scope(problem, event, assignment) in problem.bad_tuples(event)


def shares(problem, one, other):
    """Tell by the definition whether two events are adjacent."""
    return bool(set(problem.scope(one)) & set(problem.scope(other)))


def pieces_of(problem):
    return [(event, values) for event in problem.events() for values in problem.bad_tuples(event)]


def random_variables(source, most, size):
    return [(name, source.randint(1, size)) for name in VARIABLE_NAMES[:source.randint(1, most)]]


def random_event(source, name, variables):
    scope = source.sample([row[0] for row in variables], source.randint(1, min(4, len(variables))))
    tuples = list(product(*[range(dict(variables)[variable]) for variable in scope]))
    return name, scope, source.sample(tuples, source.randint(0, min(12, len(tuples))))


def random_problem(source, variables=4, size=3, events=4):
    rows = random_variables(source, variables, size)
    names = source.sample(EVENT_NAMES, source.randint(0, events))
    return Problem(rows, [random_event(source, name, rows) for name in names])


def agree(one, other):
    """Tell whether two dicts from variables to values agree where they share a variable."""
    return all([other.get(variable, value) == value for variable, value in one.items()])


def made_exclusive(problem):
    """Return the problem without the bad tuples that overlap one of an earlier event."""
    kept, rows = [], []
    for event, scope, bad_tuples in rows_of(problem):
        own = []
        for values in bad_tuples:
            fixed = dict(zip(scope, values))
            if not any([set(fixed) & set(before) and agree(fixed, before) for before in kept]):
                own.append(values)
        kept.extend([dict(zip(scope, values)) for values in own])
        rows.append((event, scope, own))
    return Problem(problem.variables(), rows)


def random_tapes(source, problem, longest=5):
    return {name: [source.randrange(size) for _ in range(source.randint(1, longest))]
            for name, size in problem.variables()}


def random_history(source, problem, length):
    pieces = pieces_of(problem)
    return [source.choice(pieces) for _ in range(length)] if pieces else []


def eventful_tapes(source, problem):
    """Return tapes of which a random number of values lead through a random history."""
    heap = Heap(problem, random_history(source, problem, source.randint(0, 7)))
    more = random_tapes(source, problem, longest=3)
    tapes = {name: heap.dropped(name) + more[name] for name in more}
    return {name: tape[:source.randint(1, len(tape) + 3)] for name, tape in tapes.items()}


def problems(count, seed, **limits):
    """Return problems that are the same in each run of the tests."""
    source = random.Random(seed)
    return [random_problem(source, **limits) for _ in range(count)]


def largest_problem():
    """Return a problem of the largest size: each event shares variables with all but one."""
    variables = [(name, 6) for name in VARIABLE_NAMES]
    events = []
    for place, name in enumerate(EVENT_NAMES):
        scope = [VARIABLE_NAMES[(place + step) % 8] for step in (0, 1, 2, 3)]
        events.append((name, scope, [(5 - at % 6, at // 6, at % 6, place % 6) for at in range(12)]))
    return Problem(variables, events)


def largest_exclusive():
    """Return an exclusive problem of the largest size: each event needs own values of a and h."""
    variables = [(name, 6) for name in VARIABLE_NAMES]
    events = []
    for place, name in enumerate(EVENT_NAMES):
        scope = ["a", "h", "bcdefg"[place % 6], "cdefgb"[place % 6]]
        events.append((name, scope, [(place % 6, place // 6, at // 6, at % 6) for at in range(12)]))
    return Problem(variables, events)


def fraction(ratio):
    return Fraction(ratio.num(), ratio.den())


def path():
    """Return a graph of three names in a row."""
    return Graph(["x", "y", "z"], [("z", "y"), ("x", "y")])


def quarters():
    return {"x": Ratio(1, 4), "y": Ratio(1, 4), "z": Ratio(1, 4)}


def adjacent(graph, one, other):
    """Tell by the edges whether two names are adjacent."""
    return one == other or (one, other) in graph.edges() or (other, one) in graph.edges()


def random_graph(source, size, share=0.5):
    names = source.sample(EVENT_NAMES, size)
    return Graph(names, [one for one in combinations(names, 2) if source.random() < share])


def random_probability(source, most):
    """Return a Ratio from 0 to a limit of few digits, so that sums may be exactly 0."""
    below = source.choice([1, 2, 3, 4, 6, 8, 12])
    return Ratio(source.randint(0, below), below).multiply(most)


def graphs_with_probabilities(count, seed, most=6):
    """Return graphs with probabilities that are the same in each run of the tests, of either verdict."""
    source, found = random.Random(seed), []
    for _ in range(count):
        graph = random_graph(source, source.randint(1, most), source.random())
        greatest = Ratio(1, source.choice([1, 2, 3, 4, 6]))
        found.append((graph, {name: random_probability(source, greatest) for name in graph.names()}))
    return found
