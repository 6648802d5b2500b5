"""Samplers: they read a tape for each variable and resample the events that occur."""

from resampler.checks import is_list
from resampler.errors import InvalidChoice, InvalidInteger, InvalidSampler, InvalidTapes, NothingToUndo
from resampler.errors import NotOccurring, SamplerBusy, TapeExhausted, TooLarge
from resampler.problems import check_problem
from resampler.validation import is_any_integer, is_integer

MOST_VALUES_OF_TAPE = 40
MOST_VALUES = 200
MOST_STEPS = 240


class Sampler:
    """The tapes of a problem, the place of the current value of each, and the steps made."""

    def __init__(self, problem, tapes):
        check_problem(problem)
        _check_tapes(problem, tapes)
        self._problem = problem
        self._tapes = {name: list(tapes[name]) for name, _ in problem.variables()}
        self._places = {name: 0 for name in self._tapes}
        self._history = []
        self._busy = False

    def __eq__(self, other):
        return (isinstance(other, Sampler) and self._problem == other._problem
                and self._history == other._history and self._tapes == other._tapes
                and self._places == other._places)

    def __len__(self):
        return len(self._history)

    def __repr__(self):
        return f"Sampler({self._problem!r}, {self._tapes!r}) after {self._history!r}"

    def problem(self):
        return self._problem

    def assignment(self):
        """Return the current values in the order of the variables."""
        return tuple([tape[self._places[name]] for name, tape in self._tapes.items()])

    def remaining(self, variable):
        """Return the values of a variable after the current one."""
        self._problem.check_variable(variable)
        return self._tapes[variable][self._places[variable] + 1:]

    def dropped(self, variable):
        """Return the values of a variable before the current one."""
        self._problem.check_variable(variable)
        return self._tapes[variable][:self._places[variable]]

    def occurring(self):
        return self._problem.occurring(self.assignment())

    def ready(self):
        """Return the events that occur and whose variables all have a next value."""
        return [event for event in self.occurring() if self._first_exhausted(event) is None]

    def is_valid(self):
        return self.occurring() == []

    def is_stuck(self):
        return self.occurring() != [] and self.ready() == []

    def resample(self, event):
        """Drop the current values of an event that occurs, and return them."""
        self._check_not_busy()
        self._problem.check_event(event)
        if event not in self.occurring():
            raise NotOccurring(event)
        exhausted = self._first_exhausted(event)
        if exhausted is not None:
            raise TapeExhausted(exhausted)
        scope = self._problem.scope(event)
        values = tuple([self._tapes[variable][self._places[variable]] for variable in scope])
        for variable in scope:
            self._places[variable] += 1
        self._history.append((event, values))
        return values

    def history(self):
        """Return the pieces of all steps, the earliest first."""
        return list(self._history)

    def undo(self):
        """Revert the last step and return its piece."""
        self._check_not_busy()
        if self._history == []:
            raise NothingToUndo()
        piece = self._history.pop()
        for variable in self._problem.scope(piece[0]):
            self._places[variable] -= 1
        return piece

    def copied(self):
        """Return an equal sampler that is not busy and shares nothing that changes."""
        result = Sampler(self._problem, self._tapes)
        result._places = dict(self._places)
        result._history = list(self._history)
        return result

    def is_busy(self):
        """Tell whether a run of this sampler is active."""
        return self._busy

    def ask(self, choose, events):
        """Return what a choice function returns; this sampler is busy while it is executed."""
        self._busy = True
        try:
            return choose(events)
        finally:
            self._busy = False

    def _check_not_busy(self):
        if self._busy:
            raise SamplerBusy()

    def _first_exhausted(self, event):
        """Return the first variable of the scope without a next value, or None."""
        for variable in self._problem.scope(event):
            if self._places[variable] + 1 == len(self._tapes[variable]):
                return variable
        return None


def check_sampler(value):
    if not isinstance(value, Sampler):
        raise InvalidSampler(value)


def run_sampler(sampler, choose=None, *, max_steps=240):
    """Perform steps until no event is ready or max_steps are made; return their number."""
    check_sampler(sampler)
    if not is_integer(max_steps, 0, MOST_STEPS):
        raise InvalidInteger(max_steps)
    if sampler.is_busy():
        raise SamplerBusy()
    for steps in range(max_steps):
        ready = sampler.ready()
        if ready == []:
            return steps
        sampler.resample(_chosen(sampler, choose, ready))
    return max_steps


def choose_last(events):
    return events[-1]


def round_robin(start=0):
    """Return a choice function that moves on by one place with each of its calls."""
    if not is_any_integer(start) or start < 0:
        raise InvalidInteger(start)
    turn = start - 1

    def choose(events):
        nonlocal turn
        turn += 1
        return events[turn % len(events)]

    return choose


def _chosen(sampler, choose, ready):
    """Return the ready event to resample: the first one, or the one that choose returns."""
    if choose is None:
        return ready[0]
    # The choice function may change its list, so it gets one of its own.
    event = sampler.ask(choose, list(ready))
    if event not in ready:
        raise InvalidChoice(event)
    return event


def _check_tapes(problem, tapes):
    if not _are_tapes(problem, tapes):
        raise InvalidTapes(tapes)
    count = sum([len(tape) for tape in tapes.values()])
    if count > MOST_VALUES:
        raise TooLarge(count)


def _are_tapes(problem, tapes):
    """Tell whether a value is a dict from exactly the variables of a problem to their tapes."""
    variables = problem.variables()
    if not isinstance(tapes, dict) or len(tapes) != len(variables):
        return False
    return all([name in tapes and _is_tape(tapes[name], size) for name, size in variables])


def _is_tape(value, size):
    if not is_list(value, 1, MOST_VALUES_OF_TAPE):
        return False
    return all([is_integer(item, 0, size - 1) for item in value])
