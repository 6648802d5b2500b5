"""What names, integers and words are."""


def is_name(value):
    """Tell whether a value is a string of one to eight letters from a to z."""
    if not isinstance(value, str) or not 1 <= len(value) <= 8:
        return False
    return all(["a" <= letter <= "z" for letter in value])


def is_any_integer(value):
    """Tell whether a value is an integer of any size; True and False are not."""
    return isinstance(value, int) and not isinstance(value, bool)


def is_integer(value, low, high):
    """Tell whether a value is an integer from low to high."""
    return is_any_integer(value) and low <= value <= high


def is_numeral(value):
    """Tell whether a value is a string of digits without a leading zero, or "0"."""
    if not isinstance(value, str) or value == "":
        return False
    # int() also reads signs, blanks and underscores, so each character is checked.
    if not all(["0" <= digit <= "9" for digit in value]):
        return False
    return value == "0" or value[0] != "0"


def parse_integer(text, *, low=0, high=999999):
    """Return the integer from low to high that a text represents, or None."""
    if not is_numeral(text):
        return None
    number = 0
    for digit in text:
        number = number * 10 + int(digit)
        # More digits never make it smaller, so a long text is not read to its end.
        if number > high:
            return None
    return number if number >= low else None


def split_words(text):
    """Return the words of a text with one space between neighbors, or None."""
    if not isinstance(text, str) or "\n" in text:
        return None
    words = text.split(" ")
    # An empty word stands for an empty text, a space at an end, or two together.
    return None if "" in words else words
