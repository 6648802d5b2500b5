"""Tables: finite probability distributions with named events."""

from math import lcm

from resampler.checks import check_distinct, check_known, check_names, is_list
from resampler.errors import InvalidCertificate, InvalidEvents, InvalidTable, InvalidWeights, Mismatch, TooLarge
from resampler.graphs import add_value, check_certificate, check_graph, check_probabilities, find_certificate
from resampler.graphs import independence_value
from resampler.independent import independent_tuples
from resampler.problems import check_problem, valid_assignments, without_events
from resampler.ratios import Ratio, ratio_product
from resampler.validation import is_any_integer, is_integer, is_name

MOST_OUTCOMES = 600


class Table:
    """Weights of outcomes, and events, which are sets of outcomes; it never changes."""

    def __init__(self, weights, events):
        _check_weights(weights)
        _check_events(events, len(weights))
        self._weights = list(weights)
        self._outcomes = {name: sorted(outcomes) for name, outcomes in events}
        # A number with one bit for each event stands for a set of events.
        self._bits = {name: 1 << place for place, name in enumerate(self._outcomes)}
        self._totals = _totals_of(self._weights, self._outcomes, self._bits)

    def __eq__(self, other):
        return isinstance(other, Table) and self._weights == other._weights and self.events() == other.events()

    def __len__(self):
        return len(self._weights)

    def __repr__(self):
        return f"Table({self._weights!r}, {self.events()!r})"

    def weights(self):
        return list(self._weights)

    def events(self):
        """Return the tuples (name, outcomes), the outcomes in ascending order."""
        return [(name, list(outcomes)) for name, outcomes in self._outcomes.items()]

    def probability(self, name):
        check_known(name, self.names())
        return self._share([name])

    def joint_probability(self, names):
        """Return the probability that all of the named events occur."""
        check_names(names, self.names())
        return self._share(names)

    def none_probability(self):
        """Return the probability that no event occurs."""
        return Ratio(self._totals.get(0, 0), sum(self._weights))

    def names(self):
        return list(self._outcomes)

    def joint_weight(self, names):
        """Return the sum of the weights of the outcomes in which all of the named events occur."""
        bits = sum([self._bits[name] for name in names])
        return sum([total for present, total in self._totals.items() if (present & bits) == bits])

    def _share(self, names):
        return Ratio(self.joint_weight(names), sum(self._weights))


def find_dependence(table, graph):
    """Return the first event and non-neighbors of it that are not independent, with both Ratios, or None."""
    if not isinstance(table, Table):
        raise InvalidTable(table)
    check_graph(graph)
    if table.names() != graph.names():
        raise Mismatch(graph)
    for name in graph.names():
        far = [other for other in graph.names() if not graph.are_adjacent(name, other)]
        # Where no name has neighbors, these are all sets of names.
        for others in independent_tuples(far, {other: [] for other in far}):
            if not _are_independent(table, name, others):
                product = table.probability(name).multiply(table.joint_probability(others))
                return name, others, table.joint_probability((name,) + others), product
    return None


def table_of(problem):
    """Return the table of the assignments of a problem, all of the same weight, and its events."""
    check_problem(problem)
    events = problem.events()
    if events == []:
        raise InvalidEvents([])
    count = problem.assignment_count()
    if count > MOST_OUTCOMES:
        raise TooLarge(count)
    # Without events, all assignments are valid.
    assignments = valid_assignments(without_events(problem, events))
    rows = [(event, [index for index, assignment in enumerate(assignments) if problem.occurs(event, assignment)])
            for event in events]
    return Table([1] * count, rows)


def build_table(graph, probabilities, value):
    """Return a table that shows, for a certificate that is not positive, that some event always occurs."""
    if not check_certificate(graph, probabilities, value) or value[0] == "positive":
        raise InvalidCertificate(value)
    _, order, rows = find_certificate(graph, probabilities, order=value[1])
    # The last row is that of the first prefix whose value is not greater than 0.
    end = len(rows[-1][0])
    parts = _parts_of_prefix(graph, probabilities, order[:end])
    for name in order[end:]:
        parts = _with_coin(parts, name, probabilities[name])
    return _table_of_parts(graph.names(), parts)


def check_table(graph, probabilities, value):
    """Tell whether a value is a table of a graph and probabilities in which some event always occurs."""
    check_graph(graph)
    check_probabilities(graph, probabilities)
    if not isinstance(value, Table) or value.names() != graph.names():
        return False
    if not all([value.probability(name) == probabilities[name] for name in graph.names()]):
        return False
    return value.none_probability().sign() == 0 and find_dependence(value, graph) is None


def _check_weights(weights):
    if not is_list(weights, 1, MOST_OUTCOMES):
        raise InvalidWeights(weights)
    if not all([is_any_integer(weight) and weight >= 0 for weight in weights]) or sum(weights) == 0:
        raise InvalidWeights(weights)


def _check_events(events, count):
    if not is_list(events, 1, 8) or not all([_is_event_row(row, count) for row in events]):
        raise InvalidEvents(events)
    check_distinct([name for name, _ in events])


def _is_event_row(row, count):
    if not isinstance(row, tuple) or len(row) != 2:
        return False
    name, outcomes = row
    if not is_name(name) or not is_list(outcomes, 0, count):
        return False
    return all([is_integer(outcome, 0, count - 1) for outcome in outcomes]) and len(set(outcomes)) == len(outcomes)


def _totals_of(weights, outcomes, bits):
    """Return a dict from each set of events that occur together, and no others, to its weight."""
    present = [0 for _ in weights]
    for name, numbers in outcomes.items():
        for number in numbers:
            present[number] += bits[name]
    totals = {}
    for events, weight in zip(present, weights):
        totals[events] = totals.get(events, 0) + weight
    return totals


def _are_independent(table, name, others):
    """Tell whether an event is independent of others occurring together."""
    joint = table.joint_weight((name,) + others)
    # Products of weights say the same as products of Ratios, without reducing each of them.
    return joint * table.joint_weight(()) == table.joint_weight((name,)) * table.joint_weight(others)


def _parts_of_prefix(graph, probabilities, prefix):
    """Return the probabilities of the sets of names of a prefix that occur together.

    Its value is not greater than 0, but that of each shorter prefix is. The empty set gets 0.
    """
    before, last = prefix[:-1], prefix[-1]
    far = [name for name in before if not graph.are_adjacent(name, last)]
    all_before = independence_value(graph, probabilities, subset=before)
    share = all_before.divide(independence_value(graph, probabilities, subset=far))
    # With this probability of the last name, the value of the prefix is 0.
    lowered = {name: probabilities[name] for name in graph.names()}
    lowered[last] = share
    values = {}
    parts = {}
    for chosen in independent_tuples(prefix, {name: graph.neighbors(name) for name in prefix}):
        free = tuple([name for name in prefix if not any([graph.are_adjacent(name, one) for one in chosen])])
        add_value(graph, lowered, free, values)
        parts[chosen] = values[free].multiply(ratio_product([lowered[name] for name in chosen]))
    if not share.less_than(probabilities[last]):
        return parts
    return _with_coin(parts, last, probabilities[last].subtract(share).divide(Ratio(1).subtract(share)))


def _with_coin(parts, name, chance):
    """Return the probabilities of sets of names to which an independent coin adds a name."""
    found = {}
    for chosen, part in parts.items():
        if name in chosen:
            _add_part(found, chosen, part)
        else:
            _add_part(found, chosen, part.multiply(Ratio(1).subtract(chance)))
            _add_part(found, chosen + (name,), part.multiply(chance))
    return found


def _add_part(parts, chosen, part):
    parts[chosen] = parts.get(chosen, Ratio(0)).add(part)


def _table_of_parts(names, parts):
    """Return the table with an outcome for each set of names that has a probability above 0."""
    kept = [(chosen, part) for chosen, part in parts.items() if part.sign() > 0]
    common = 1
    for _, part in kept:
        common = lcm(common, part.den())
    weights = [part.num() * (common // part.den()) for _, part in kept]
    events = [(name, [index for index, (chosen, _) in enumerate(kept) if name in chosen]) for name in names]
    return Table(weights, events)
