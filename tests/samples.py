"""Values of every kind that the document calls any value."""

from resampler.errors import InvalidName
from resampler.ratios import Ratio


def double(value):
    return value * 2


def containers():
    return [[], [1], ["a"], [Ratio(1)], [[1]], (), (1,), ("a",), (1, 2), (Ratio(1),), {}, {"a": 1}, {1: "a"}]


def neither_strings_nor_numbers():
    return [None, True, False, double, lambda: 1, InvalidName("a")] + containers()


def strings():
    return ["", "a", "abc", "0", "1", "12", "-1", "1/2", " ", "\n", "a b", "A"]


def integers():
    return [0, 1, -1, 2, 7, 999999, -(10 ** 30), 10 ** 30 - 1, 10 ** 400]


def ratios():
    return [Ratio(0), Ratio(1), Ratio(-1, 2), Ratio(10 ** 30, 3)]


def non_strings():
    return neither_strings_nor_numbers() + integers() + ratios()


def non_integers():
    return neither_strings_nor_numbers() + strings() + ratios()


def non_ratios():
    return neither_strings_nor_numbers() + strings() + integers()


def all_values():
    return non_ratios() + ratios()
