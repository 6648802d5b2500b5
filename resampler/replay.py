"""Replay: tapes from a heap and an assignment, checks of runs, and differences of samplers."""

from resampler.checks import is_list
from resampler.errors import InvalidAssignment, InvalidTapes, Mismatch, TooLarge
from resampler.heaps import check_heap
from resampler.sampler import MOST_VALUES_OF_TAPE, Sampler, check_sampler
from resampler.validation import is_integer


def consumed_values(heap, assignment):
    """Return for each variable the values that a heap drops, then the one of the assignment."""
    check_heap(heap)
    problem = heap.problem()
    if not problem.is_assignment(assignment):
        raise InvalidAssignment(assignment)
    names = [name for name, _ in problem.variables()]
    return {name: heap.dropped(name) + [value] for name, value in zip(names, assignment)}


def build_sampler(heap, assignment, *, extra=None):
    """Return a sampler without steps whose tapes begin with the consumed values."""
    consumed = consumed_values(heap, assignment)
    if extra is not None and not _are_extra_values(heap.problem(), extra):
        raise InvalidTapes(extra)
    more = {} if extra is None else extra
    tapes = {name: values + list(more.get(name, [])) for name, values in consumed.items()}
    for tape in tapes.values():
        if len(tape) > MOST_VALUES_OF_TAPE:
            raise TooLarge(len(tape))
    # The sampler refuses too many values of all tapes together.
    return Sampler(heap.problem(), tapes)


def check_run(problem, tapes, history, assignment):
    """Tell whether a sampler can perform the pieces of a history and then has an assignment."""
    sampler = Sampler(problem, tapes)
    if not isinstance(history, (list, tuple)) or not all([problem.is_piece(item) for item in history]):
        return False
    for event, values in history:
        if event not in sampler.ready() or sampler.resample(event) != values:
            return False
    # A tuple with True equals one with 1, so the assignment itself is checked, too.
    return problem.is_assignment(assignment) and assignment == sampler.assignment()


def rewind_sampler(sampler):
    """Return a sampler that is equal to another one before its first step."""
    check_sampler(sampler)
    result = sampler.copied()
    for _ in range(len(sampler)):
        result.undo()
    return result


def first_difference(one, other):
    """Return what two samplers of equal problems differ in first, or None if they are equal."""
    check_sampler(one)
    check_sampler(other)
    if one.problem() != other.problem():
        raise Mismatch(other)
    if one.history() != other.history():
        return "history", _first_other_item(one.history(), other.history())
    names = [name for name, _ in one.problem().variables()]
    if one.assignment() != other.assignment():
        return "current", names[_first_other_item(one.assignment(), other.assignment())]
    for name in names:
        if one.remaining(name) != other.remaining(name):
            return "remaining", name
    return None


def _are_extra_values(problem, extra):
    """Tell whether a value is a dict from some variables to lists of values, which may be empty."""
    if not isinstance(extra, dict):
        return False
    sizes = {name: size for name, size in problem.variables()}
    return all([name in sizes and _are_values_of(values, sizes[name]) for name, values in extra.items()])


def _are_values_of(value, size):
    return is_list(value, 0, MOST_VALUES_OF_TAPE) and all([is_integer(item, 0, size - 1) for item in value])


def _first_other_item(one, other):
    """Return the first index at which two lists differ, or the length of the shorter one."""
    for index, (item, more) in enumerate(zip(one, other)):
        if item != more:
            return index
    return min(len(one), len(other))
