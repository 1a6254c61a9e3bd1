"""Boxes: their codes and kinds, and the distances that dangerous kinds keep."""

from tidewarden.kinds import are_digits, ascends, is_between, is_tuple, is_word

LETTERS = "ABCDEFGHIJKLMNOPQRSTUVWXYZ"
DANGEROUS = ("d1", "d2", "d3", "d4", "d5", "d6", "d7", "d8", "d9")
KINDS = ("plain", "cold", "d1", "d2", "d3", "d4", "d5", "d6", "d7", "d8", "d9")
CODE_LETTERS = 4
CODE_SIGNS = 10
MOST_WEIGHT = 40
MOST_PORT = 9
MOST_DISTANCE = 5


def sign_value(sign):
    """Return the value of a sign of a code."""
    if are_digits(sign):
        return int(sign)
    at = LETTERS.index(sign)
    # From 10 on, each ten letters leave out one number that is divisible by 11.
    return 10 + at + (at + 9) // 10


def check_digit(text):
    """Return the check digit of the first ten signs of a code."""
    total = sum([sign_value(text[place]) * 2 ** place for place in range(10)])
    return total % 11 % 10


def is_code(value):
    """Tell whether any value is a code."""
    if type(value) is not str or len(value) != CODE_SIGNS + 1:
        return False
    if not all([sign in LETTERS for sign in value[:CODE_LETTERS]]) or not are_digits(value[CODE_LETTERS:]):
        return False
    return check_digit(value[:CODE_SIGNS]) == int(value[CODE_SIGNS])


def is_box(value):
    """Tell whether any value is a box."""
    if not is_tuple(value, 4):
        return False
    code, weight, kind, port = value
    if not is_code(code) or not is_word(kind, KINDS):
        return False
    return is_between(weight, 1, MOST_WEIGHT) and is_between(port, 1, MOST_PORT)


def is_told_distance(value):
    """Tell whether any value is a triple of a table of distances."""
    if not is_tuple(value, 3):
        return False
    one, two, distance = value
    if not is_word(one, DANGEROUS) or not is_word(two, DANGEROUS):
        return False
    return one <= two and is_between(distance, 1, MOST_DISTANCE)


def is_distances(value):
    """Tell whether any value is a table of distances."""
    if type(value) is not tuple or not all([is_told_distance(item) for item in value]):
        return False
    # If the pairs of kinds ascend, the triples do, and no pair stands there twice.
    return ascends([(one, two) for one, two, _ in value])


def distance_of(table, one, two):
    """Return the distance that a table tells for two kinds in either order, or 0."""
    for first, second, distance in table:
        if (first, second) == (one, two) or (first, second) == (two, one):
            return distance
    return 0
