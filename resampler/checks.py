"""Checks that several modules share."""

from resampler.errors import DuplicateName, InvalidNames, UnknownName


def is_list(value, low, high):
    """Tell whether a value is a list, or a tuple, of low to high items."""
    return isinstance(value, (list, tuple)) and low <= len(value) <= high


def check_distinct(names):
    """Check that no string of a list appeared earlier in it."""
    seen = {}
    for name in names:
        if name in seen:
            raise DuplicateName(name)
        seen[name] = True


def check_known(value, known):
    """Check that a value is one of a list of names."""
    if value not in known:
        raise UnknownName(value)


def check_names(names, known):
    """Check that a value is a list of at most eight distinct ones of the known names."""
    if not is_list(names, 0, 8):
        raise InvalidNames(names)
    for place, name in enumerate(names):
        check_known(name, known)
        if name in names[:place]:
            raise DuplicateName(name)
