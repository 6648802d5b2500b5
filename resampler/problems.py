"""Problems: variables that take values, and bad events over them."""

from resampler.checks import check_distinct, is_list
from resampler.errors import DuplicateName, InvalidAssignment, InvalidEvents, InvalidInteger, InvalidNames
from resampler.errors import InvalidProblem, InvalidVariables, TooLarge, UnknownEvent, UnknownVariable
from resampler.ratios import Ratio
from resampler.validation import is_integer, is_name

MOST_VARIABLES = 8
MOST_EVENTS = 8


class Problem:
    """Variables with sizes, and events with scopes and bad tuples; it never changes."""

    def __init__(self, variables, events=()):
        _check_variables(variables)
        self._variables = list(variables)
        self._sizes = {name: size for name, size in variables}
        self._places = {name: place for place, name in enumerate(self._sizes)}
        _check_events(events, self._sizes)
        self._events = [(name, list(scope), sorted(bad_tuples)) for name, scope, bad_tuples in events]
        self._scopes = {name: scope for name, scope, _ in self._events}
        self._bad_tuples = {name: bad_tuples for name, _, bad_tuples in self._events}
        self._neighbors = {name: _neighbors_of(name, self._scopes) for name in self._scopes}

    def __eq__(self, other):
        return (isinstance(other, Problem) and self._variables == other._variables
                and self._events == other._events)

    def __len__(self):
        return len(self._events)

    def __repr__(self):
        return f"Problem({self._variables!r}, {self._events!r})"

    def variables(self):
        return list(self._variables)

    def events(self):
        return list(self._scopes)

    def size(self, variable):
        self.check_variable(variable)
        return self._sizes[variable]

    def scope(self, event):
        self.check_event(event)
        return list(self._scopes[event])

    def bad_tuples(self, event):
        """Return the bad tuples of an event in ascending order."""
        self.check_event(event)
        return list(self._bad_tuples[event])

    def are_adjacent(self, one, other):
        """Tell whether the scopes of two events share a variable."""
        self.check_event(one)
        self.check_event(other)
        return one == other or other in self._neighbors[one]

    def neighbors(self, event):
        """Return the other events that are adjacent to an event."""
        self.check_event(event)
        return list(self._neighbors[event])

    def is_assignment(self, value):
        return _are_values(value, list(self._sizes.values()))

    def occurs(self, event, assignment):
        self.check_event(event)
        self._check_assignment(assignment)
        return self._is_bad(event, assignment)

    def occurring(self, assignment):
        """Return all events that occur in an assignment."""
        self._check_assignment(assignment)
        return [event for event in self._scopes if self._is_bad(event, assignment)]

    def assignment_count(self):
        return _product(list(self._sizes.values()))

    def probability(self, event):
        """Return the part of the values of the scope that are bad tuples, as a Ratio."""
        self.check_event(event)
        return Ratio(len(self._bad_tuples[event]), _product(self._scope_sizes(event)))

    def is_event(self, value):
        return isinstance(value, str) and value in self._scopes

    def is_piece(self, value):
        """Tell whether a value is a tuple of an event and one of its bad tuples."""
        if not isinstance(value, tuple) or len(value) != 2 or not self.is_event(value[0]):
            return False
        event, values = value
        # A tuple with True equals one with 1, so the values themselves are checked, too.
        return _are_values(values, self._scope_sizes(event)) and values in self._bad_tuples[event]

    def check_variable(self, value):
        _check_variable(value, self._sizes)

    def check_event(self, value):
        if not self.is_event(value):
            raise UnknownEvent(value)

    def _check_assignment(self, value):
        if not self.is_assignment(value):
            raise InvalidAssignment(value)

    def _is_bad(self, event, assignment):
        values = tuple([assignment[self._places[variable]] for variable in self._scopes[event]])
        return values in self._bad_tuples[event]

    def _scope_sizes(self, event):
        return [self._sizes[variable] for variable in self._scopes[event]]


def check_problem(value):
    if not isinstance(value, Problem):
        raise InvalidProblem(value)


def find_overlap(problem):
    """Return the first two adjacent events that occur together, with an assignment, or None."""
    check_problem(problem)
    events = problem.events()
    for place, one in enumerate(events):
        for other in events[place + 1:]:
            assignment = _joint_assignment(problem, one, other)
            if assignment is not None:
                return one, other, assignment
    return None


def is_exclusive(problem):
    """Tell whether no assignment makes two distinct adjacent events occur."""
    return find_overlap(problem) is None


def shows_overlap(problem, value):
    """Tell whether a value is a tuple of two adjacent events and an assignment with both."""
    check_problem(problem)
    if not isinstance(value, tuple) or len(value) != 3:
        return False
    one, other, assignment = value
    if not problem.is_event(one) or not problem.is_event(other) or not problem.is_assignment(assignment):
        return False
    if one == other or not problem.are_adjacent(one, other):
        return False
    return problem.occurs(one, assignment) and problem.occurs(other, assignment)


def valid_assignments(problem, *, limit=4096):
    """Return all assignments in which no event occurs, in ascending order."""
    check_problem(problem)
    if not is_integer(limit, 1, 4096):
        raise InvalidInteger(limit)
    count = problem.assignment_count()
    if count > limit:
        raise TooLarge(count)
    found = [()]
    for _, size in problem.variables():
        found = [values + (value,) for values in found for value in range(size)]
    return [values for values in found if problem.occurring(values) == []]


def without_events(problem, names):
    """Return the problem with the same variables and without the named events."""
    check_problem(problem)
    if not is_list(names, 0, MOST_EVENTS):
        raise InvalidNames(names)
    for place, name in enumerate(names):
        problem.check_event(name)
        if name in names[:place]:
            raise DuplicateName(name)
    return Problem(problem.variables(), [row for row in _event_rows(problem) if row[0] not in names])


def combine_problems(one, other):
    """Return the problem with the variables and events of two problems."""
    check_problem(one)
    check_problem(other)
    variables = one.variables() + other.variables()
    check_distinct([name for name, _ in variables])
    check_distinct(one.events() + other.events())
    if len(variables) > MOST_VARIABLES:
        raise TooLarge(len(variables))
    events = _event_rows(one) + _event_rows(other)
    if len(events) > MOST_EVENTS:
        raise TooLarge(len(events))
    return Problem(variables, events)


def _event_rows(problem):
    return [(event, problem.scope(event), problem.bad_tuples(event)) for event in problem.events()]


def _neighbors_of(event, scopes):
    """Return the other events of a dict of scopes whose scopes share a variable."""
    found = []
    for other, scope in scopes.items():
        if other != event and any([variable in scope for variable in scopes[event]]):
            found.append(other)
    return found


def _joint_assignment(problem, one, other):
    """Return the first assignment in which two adjacent events occur, with 0 elsewhere, or None."""
    if not problem.are_adjacent(one, other):
        return None
    for values in problem.bad_tuples(one):
        fixed = {variable: value for variable, value in zip(problem.scope(one), values)}
        for more in problem.bad_tuples(other):
            added = list(zip(problem.scope(other), more))
            if all([fixed.get(variable, value) == value for variable, value in added]):
                for variable, value in added:
                    fixed[variable] = value
                return tuple([fixed.get(name, 0) for name, _ in problem.variables()])
    return None


def _product(numbers):
    result = 1
    for number in numbers:
        result = result * number
    return result


def _are_values(value, sizes):
    """Tell whether a value is a tuple with one value for each of the sizes."""
    if not isinstance(value, tuple) or len(value) != len(sizes):
        return False
    return all([is_integer(item, 0, size - 1) for item, size in zip(value, sizes)])


def _check_variables(variables):
    if not is_list(variables, 1, MOST_VARIABLES) or not all([_is_variable_row(row) for row in variables]):
        raise InvalidVariables(variables)
    check_distinct([name for name, _ in variables])


def _is_variable_row(row):
    return isinstance(row, tuple) and len(row) == 2 and is_name(row[0]) and is_integer(row[1], 1, 6)


def _check_events(events, sizes):
    """Check the list of events as a whole, and then the items of one event after the other."""
    if not is_list(events, 0, MOST_EVENTS) or not all([_is_event_row(row) for row in events]):
        raise InvalidEvents(events)
    names = []
    for name, scope, bad_tuples in events:
        if name in names:
            raise DuplicateName(name)
        names.append(name)
        _check_scope(scope, sizes)
        if not _are_bad_tuples(bad_tuples, [sizes[variable] for variable in scope]):
            raise InvalidEvents(events)


def _is_event_row(row):
    if not isinstance(row, tuple) or len(row) != 3:
        return False
    return is_name(row[0]) and is_list(row[1], 1, 4) and is_list(row[2], 0, 12)


def _check_scope(scope, sizes):
    for item in scope:
        _check_variable(item, sizes)
    check_distinct(scope)


def _check_variable(value, sizes):
    # Only a string is looked up: other values may have no hash.
    if not isinstance(value, str) or value not in sizes:
        raise UnknownVariable(value)


def _are_bad_tuples(bad_tuples, sizes):
    known = []
    for values in bad_tuples:
        if not _are_values(values, sizes) or values in known:
            return False
        known.append(values)
    return True
