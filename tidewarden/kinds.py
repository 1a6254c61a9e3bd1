"""Tests of the kinds of values, for functions that take any value, and of numbers in texts.

Values are asked for their exact class, so that True is no integer, and before they are
compared, so that no foreign comparison decides.
"""

MOST_DIGITS = 9


def is_between(value, low, high):
    """Tell whether a value is an integer from low to high."""
    return type(value) is int and low <= value <= high


def is_tuple(value, size):
    """Tell whether a value is a tuple with a number of items."""
    return type(value) is tuple and len(value) == size


def is_row(value, least, most):
    """Tell whether a value is a tuple with a number of items from the least to the most."""
    return type(value) is tuple and least <= len(value) <= most


def is_word(value, words):
    """Tell whether a value is one of some texts."""
    return type(value) is str and value in words


def are_integers(value):
    """Tell whether a value is a tuple of integers."""
    return type(value) is tuple and all([type(item) is int for item in value])


def is_pair(value):
    """Tell whether a value is a pair of integers."""
    return are_integers(value) and len(value) == 2


def is_marked(value, word, size):
    """Tell whether a value is a tuple with a number of items, the first of which is a word."""
    return is_tuple(value, size) and type(value[0]) is str and value[0] == word


def ascends(items):
    """Tell whether each item of a list or tuple is less than the next one."""
    return all([items[k] < items[k + 1] for k in range(len(items) - 1)])


def are_digits(text):
    """Tell whether all signs of a text are decimal digits."""
    return all(["0" <= sign <= "9" for sign in text])


def number_in(text):
    """Return the number that a text is, without leading zeros, or None if it is none."""
    if not 1 <= len(text) <= MOST_DIGITS or not are_digits(text):
        return None
    if text[0] == "0" and text != "0":
        return None
    return int(text)
