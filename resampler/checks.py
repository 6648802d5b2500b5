"""Checks that several modules share."""

from resampler.errors import DuplicateName


def is_list(value, low, high):
    """Tell whether a value is a list, or a tuple, of low to high items."""
    return isinstance(value, (list, tuple)) and low <= len(value) <= high


def check_distinct(names):
    """Check that no string of a list appeared earlier in it."""
    seen = {}
    for name in names:
        if name in seen:
            raise DuplicateName(name)
        seen[name] = True
