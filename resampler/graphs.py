"""Graphs of dependencies, and certificates that tell whether all bad events can be avoided."""

from resampler.checks import check_known, check_names, is_list
from resampler.errors import DuplicateName, InvalidCertificate, InvalidEvents, InvalidGraph, InvalidName, InvalidOrder
from resampler.errors import InvalidProbabilities
from resampler.independent import independent_tuples
from resampler.problems import check_problem
from resampler.ratios import Ratio
from resampler.validation import is_name

MOST_NAMES = 8


class Graph:
    """Names, some of them with an edge between them; it never changes."""

    def __init__(self, names, edges=()):
        _check_graph_names(names)
        _check_edges(edges, names)
        self._neighbors = {name: [other for other in names if (name, other) in edges or (other, name) in edges]
                           for name in names}

    def __eq__(self, other):
        # Dicts are equal in any order of their keys, but the order of the names counts.
        return (isinstance(other, Graph) and list(self._neighbors) == list(other._neighbors)
                and self._neighbors == other._neighbors)

    def __len__(self):
        return len(self._neighbors)

    def __repr__(self):
        return f"Graph({self.names()!r}, {self.edges()!r})"

    def names(self):
        return list(self._neighbors)

    def edges(self):
        """Return the edges, each with the earlier name first, in the order of their names."""
        names = self.names()
        return [(one, other) for place, one in enumerate(names) for other in names[place + 1:]
                if other in self._neighbors[one]]

    def are_adjacent(self, one, other):
        """Tell whether two names are equal or have an edge between them."""
        check_known(one, self.names())
        check_known(other, self.names())
        return one == other or other in self._neighbors[one]

    def neighbors(self, name):
        """Return the other names that are adjacent to a name."""
        check_known(name, self.names())
        return list(self._neighbors[name])


def check_graph(value):
    if not isinstance(value, Graph):
        raise InvalidGraph(value)


def check_probabilities(graph, value):
    """Check that a value is a dict from exactly the names of a graph to Ratios from 0 to 1."""
    names = graph.names()
    if not isinstance(value, dict) or len(value) != len(names):
        raise InvalidProbabilities(value)
    if not all([name in value and _is_probability(value[name]) for name in names]):
        raise InvalidProbabilities(value)


def dependency_graph(problem):
    """Return the graph of the events of a problem, with an edge between any two that are adjacent."""
    check_problem(problem)
    events = problem.events()
    if events == []:
        raise InvalidEvents([])
    edges = [(one, other) for place, one in enumerate(events) for other in events[place + 1:]
             if problem.are_adjacent(one, other)]
    return Graph(events, edges)


def independence_value(graph, probabilities, *, subset=None):
    """Return the signed sum of the products of probabilities over the independent sets of a subset."""
    check_graph(graph)
    check_probabilities(graph, probabilities)
    if subset is not None:
        check_names(subset, graph.names())
    names = tuple(graph.names() if subset is None else subset)
    values = {}
    add_value(graph, probabilities, names, values)
    return values[names]


def add_value(graph, probabilities, names, values):
    """Put the independence value of a tuple of names into a dict, behind the two that it follows from."""
    if names in values:
        return
    if names == ():
        values[names] = Ratio(1)
        return
    rest, apart = _required(graph, names)
    add_value(graph, probabilities, rest, values)
    add_value(graph, probabilities, apart, values)
    values[names] = _next_value(values, rest, apart, probabilities[names[-1]])


def independent_name_sets(graph):
    """Return all independent sets of names, by size and then by the positions of the names."""
    check_graph(graph)
    return independent_tuples(graph.names(), {name: graph.neighbors(name) for name in graph.names()})


def find_certificate(graph, probabilities, *, order=None):
    """Return a tuple (verdict, order, rows) that shows whether each prefix has a positive value."""
    check_graph(graph)
    check_probabilities(graph, probabilities)
    names = graph.names() if order is None else order
    if not _is_order(graph, names):
        raise InvalidOrder(order)
    verdict = "positive"
    values = {}
    for count in range(1, len(graph) + 1):
        prefix = tuple(names[:count])
        add_value(graph, probabilities, prefix, values)
        if values[prefix].sign() <= 0:
            verdict = "not_positive"
            break
    return verdict, list(names), [(_in_order(graph, chosen), value) for chosen, value in values.items()]


def check_certificate(graph, probabilities, value):
    """Tell whether a value is a certificate: whether its rows follow from one another and show its verdict."""
    check_graph(graph)
    check_probabilities(graph, probabilities)
    if not isinstance(value, tuple) or len(value) != 3:
        return False
    verdict, order, rows = value
    if not _is_order(graph, order) or not isinstance(rows, (list, tuple)):
        return False
    known = {}
    for row in rows:
        if not _is_next_row(graph, probabilities, order, row, known):
            return False
        known[row[0]] = row[1]
    prefixes = [_in_order(graph, order[:count]) for count in range(1, len(order) + 1)]
    if verdict == "positive":
        return all([prefix in known and known[prefix].sign() > 0 for prefix in prefixes])
    return verdict == "not_positive" and any([prefix in known and known[prefix].sign() <= 0 for prefix in prefixes])


def lower_bound(graph, probabilities, value):
    """Return the value of all names, a lower bound for the probability that no event occurs."""
    if not check_certificate(graph, probabilities, value) or value[0] != "positive":
        raise InvalidCertificate(value)
    return independence_value(graph, probabilities)


def _check_graph_names(names):
    if not is_list(names, 1, MOST_NAMES):
        raise InvalidGraph(names)
    for place, name in enumerate(names):
        if not is_name(name):
            raise InvalidName(name)
        if name in names[:place]:
            raise DuplicateName(name)


def _check_edges(edges, names):
    if not isinstance(edges, (list, tuple)):
        raise InvalidGraph(edges)
    for place, edge in enumerate(edges):
        if not isinstance(edge, tuple) or len(edge) != 2:
            raise InvalidGraph(edge)
        one, other = edge
        check_known(one, names)
        check_known(other, names)
        if one == other or edge in edges[:place] or (other, one) in edges[:place]:
            raise InvalidGraph(edge)


def _is_probability(value):
    return isinstance(value, Ratio) and value.sign() >= 0 and not Ratio(1).less_than(value)


def _is_order(graph, value):
    """Tell whether a value is a list with each name of a graph exactly once."""
    return is_list(value, len(graph), len(graph)) and all([name in value for name in graph.names()])


def _in_order(graph, names):
    return tuple([name for name in graph.names() if name in names])


def _required(graph, names):
    """Return a tuple of names without its last one, and without that one and its neighbors."""
    last = names[-1]
    rest = names[:-1]
    return rest, tuple([name for name in rest if not graph.are_adjacent(name, last)])


def _next_value(values, rest, apart, probability):
    return values[rest].subtract(probability.multiply(values[apart]))


def _is_next_row(graph, probabilities, order, row, known):
    """Tell whether a value is a row with new names whose value follows from the rows before it."""
    if not isinstance(row, tuple) or len(row) != 2:
        return False
    names, value = row
    if not isinstance(names, tuple) or names != _in_order(graph, names):
        return False
    if not isinstance(value, Ratio) or names in known:
        return False
    if names == ():
        return value == Ratio(1)
    ordered = tuple([name for name in order if name in names])
    rest, apart = [_in_order(graph, chosen) for chosen in _required(graph, ordered)]
    if rest not in known or apart not in known:
        return False
    return value == _next_value(known, rest, apart, probabilities[ordered[-1]])
