"""Values of every kind that the document calls any value."""

from resampler.errors import InvalidName
from resampler.graphs import Graph
from resampler.heaps import Heap
from resampler.problems import Problem
from resampler.ratios import Ratio
from resampler.sampler import Sampler, choose_last, round_robin
from resampler.session import Session
from resampler.tables import Table


def double(value):
    return value * 2


def containers():
    return [[], [1], ["a"], [Ratio(1)], [[1]], (), (1,), ("a",), (1, 2), (Ratio(1),), {}, {"a": 1}, {1: "a"}]


def objects():
    """Return objects of the package; a problem, a sampler and a heap come first."""
    problem = Problem([("a", 2)], [("x", ["a"], [(1,)])])
    return [problem, Sampler(problem, {"a": [1, 0]}), Heap(problem, [("x", (1,))]), Problem([("a", 1)]),
            Graph(["x", "y"], [("x", "y")]), Table([1, 2], [("x", [0])]), Session(), choose_last, round_robin(2), InvalidName("a")]


def neither_strings_nor_numbers():
    return [None, True, False, double, lambda: 1] + objects() + containers()


def strings():
    return ["", "a", "abc", "0", "1", "12", "-1", "1/2", " ", "\n", "a b", "A"]


def integers():
    return [0, 1, -1, 2, 7, 999999, -(10 ** 30), 10 ** 30 - 1, 10 ** 400]


def ratios():
    return [Ratio(0), Ratio(1), Ratio(-1, 2), Ratio(10 ** 30, 3)]


def non_strings():
    return neither_strings_nor_numbers() + integers() + ratios()


def non_integers():
    return neither_strings_nor_numbers() + strings() + ratios()


def non_ratios():
    return neither_strings_nor_numbers() + strings() + integers()


def all_values():
    return non_ratios() + ratios()


def without_kind(kind):
    """Return all values but the objects of a class of the package."""
    return [value for value in all_values() if not isinstance(value, kind)]


def non_lists():
    """Return all values that are neither lists nor tuples."""
    return [value for value in all_values() if not isinstance(value, (list, tuple))]


def non_integers_from(low, high):
    """Return all kinds of values that are no integers from low to high."""
    return non_integers() + [low - 1, high + 1, low - 10 ** 29, high + 10 ** 29]
