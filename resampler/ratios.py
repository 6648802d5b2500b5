"""Exact fractions: all probabilities in results are Ratios."""

from math import gcd

from resampler.errors import InvalidInteger, InvalidRatio, InvalidText
from resampler.validation import is_any_integer, is_numeral


class Ratio:
    """A fraction in lowest terms with a positive denominator; it never changes."""

    def __init__(self, numerator, denominator=1):
        if not is_any_integer(numerator):
            raise InvalidInteger(numerator)
        if not is_any_integer(denominator):
            raise InvalidInteger(denominator)
        if denominator == 0:
            raise InvalidRatio((numerator, denominator))
        divisor = gcd(numerator, denominator)
        # A negative divisor moves the sign of the denominator to the numerator.
        if denominator < 0:
            divisor = -divisor
        self._num = numerator // divisor
        self._den = denominator // divisor

    def num(self):
        return self._num

    def den(self):
        return self._den

    def sign(self):
        """Return -1, 0 or 1."""
        if self._num == 0:
            return 0
        return 1 if self._num > 0 else -1

    def __eq__(self, other):
        return isinstance(other, Ratio) and self._num == other._num and self._den == other._den

    def __str__(self):
        if self._den == 1:
            return str(self._num)
        return f"{self._num}/{self._den}"

    def __repr__(self):
        return f"Ratio({self._num}, {self._den})"

    def add(self, other):
        _check_ratio(other)
        return Ratio(self._num * other.den() + other.num() * self._den, self._den * other.den())

    def subtract(self, other):
        _check_ratio(other)
        return Ratio(self._num * other.den() - other.num() * self._den, self._den * other.den())

    def multiply(self, other):
        _check_ratio(other)
        return Ratio(self._num * other.num(), self._den * other.den())

    def divide(self, other):
        _check_ratio(other)
        if other.sign() == 0:
            raise InvalidRatio(other)
        return Ratio(self._num * other.den(), self._den * other.num())

    def less_than(self, other):
        _check_ratio(other)
        return self._num * other.den() < other.num() * self._den


def ratio_sum(values, *, start=None):
    """Return the sum of a list of Ratios, plus start if it is given."""
    _check_ratios(values)
    total = Ratio(0)
    if start is not None:
        _check_ratio(start)
        total = start
    for value in values:
        total = total.add(value)
    return total


def ratio_product(values):
    """Return the product of a list of Ratios."""
    _check_ratios(values)
    result = Ratio(1)
    for value in values:
        result = result.multiply(value)
    return result


def parse_ratio(text):
    """Return the Ratio whose str is the text."""
    ratio = _read_ratio(text)
    # The text of a fraction that is not in lowest terms is not the str of its Ratio.
    if ratio is None or str(ratio) != text:
        raise InvalidText(text)
    return ratio


def _read_ratio(text):
    """Return the Ratio that a text describes, in lowest terms or not, or None."""
    if not isinstance(text, str):
        return None
    top, slash, bottom = text.removeprefix("-").partition("/")
    if slash == "":
        bottom = "1"
    if not is_numeral(top) or not is_numeral(bottom) or bottom == "0":
        return None
    ratio = Ratio(int(top), int(bottom))
    return Ratio(0).subtract(ratio) if text.startswith("-") else ratio


def _check_ratio(value):
    if not isinstance(value, Ratio):
        raise InvalidRatio(value)


def _check_ratios(values):
    """Check a list as a whole, and then its items in their order."""
    if not isinstance(values, (list, tuple)):
        raise InvalidRatio(values)
    for value in values:
        _check_ratio(value)
