"""Witness trees: the earlier steps that led to a step of a history."""

from resampler.checks import is_list
from resampler.errors import InvalidInteger, InvalidTree
from resampler.heaps import MOST_PIECES, check_history
from resampler.problems import check_problem
from resampler.sampler import Sampler
from resampler.validation import is_any_integer, is_integer


def witness_tree(problem, history, step):
    """Return the rows (depth, event, bad tuple, parent) of the tree of one piece of a history."""
    check_problem(problem)
    check_history(problem, history)
    if not is_integer(step, 0, len(history) - 1):
        raise InvalidInteger(step)
    return _tree_of(problem, history, step)


def witness_trees(problem, history):
    """Return the trees of all pieces of a history."""
    check_problem(problem)
    check_history(problem, history)
    return [_tree_of(problem, history, step) for step in range(len(history))]


def tree_values(problem, rows):
    """Return tuples (variable, position, value) for the tape values that the rows of a tree drop."""
    check_problem(problem)
    if not _is_tree(problem, rows):
        raise InvalidTree(rows)
    depths = _depths_by_variable(problem, rows)
    found = []
    for depth, event, values, _ in rows:
        for variable, value in zip(problem.scope(event), values):
            position = len([other for other in depths[variable] if other > depth])
            found.append((variable, position, value))
    return found


def check_tree(problem, history, step, value):
    """Tell whether a value is a list with the rows of the tree of a piece."""
    tree = witness_tree(problem, history, step)
    return _are_rows(problem, value) and list(value) == tree


def fits_tapes(problem, tapes, rows):
    """Tell whether tapes have the values of a tree at their positions."""
    # Building a sampler raises what is to be raised for wrong tapes.
    Sampler(problem, tapes)
    for variable, position, value in tree_values(problem, rows):
        if position >= len(tapes[variable]) or tapes[variable][position] != value:
            return False
    return True


def _tree_of(problem, history, step):
    near = {event: [event] + problem.neighbors(event) for event in problem.events()}
    event, values = history[step]
    rows = [(0, event, values, None)]
    # For each event its last row, as a tuple (minus its depth, its index). It is the deepest one
    # of the event, which is adjacent to itself; so the least of these tuples is that of the parent.
    deepest = {event: (0, 0)}
    for event, values in reversed(history[:step]):
        found = [deepest[other] for other in near[event] if other in deepest]
        if found != []:
            above, parent = min(found)
            deepest[event] = (above - 1, len(rows))
            rows.append((1 - above, event, values, parent))
    return rows


def _is_tree(problem, value):
    """Tell whether a value is a list of rows that some history has for one of its pieces."""
    if not is_list(value, 1, MOST_PIECES) or not _are_rows(problem, value):
        return False
    history = [(row[1], row[2]) for row in value][::-1]
    return list(value) == _tree_of(problem, history, len(history) - 1)


def _are_rows(problem, value):
    return isinstance(value, (list, tuple)) and all([_is_row(problem, row) for row in value])


def _is_row(problem, value):
    """Tell whether a value is a tuple (depth, event, bad tuple, parent), not yet whether it is the right one."""
    if not isinstance(value, tuple) or len(value) != 4:
        return False
    depth, event, values, parent = value
    # True equals 1, so the kinds of the numbers are checked.
    if not is_any_integer(depth) or not (parent is None or is_any_integer(parent)):
        return False
    return problem.is_piece((event, values))


def _depths_by_variable(problem, rows):
    """Return for each variable the depths of the rows whose scope contains it."""
    depths = {name: [] for name, _ in problem.variables()}
    for row in rows:
        for variable in problem.scope(row[1]):
            depths[variable].append(row[0])
    return depths
