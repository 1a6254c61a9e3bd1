"""Rule books: what they are, and which movements they choose."""

from tidewarden.kinds import is_between, is_row, is_tuple, is_word
from tidewarden.ports import BERTHED, ROADS
from tidewarden.ticking import NO_MOVEMENT, height_at, movements_of

MOST_RULES = 12
MOST_CONDITIONS = 3
MOST_NUMBER = 999
FIELDS = ("tick", "tide", "roads", "berthed", "stops")
VESSEL_WORDS = ("first", "last", "longest", "deepest", "busiest", "oldest")
BERTH_WORDS = ("first", "tightest", "deepest")
CHOSEN = "chosen"


def is_condition(value):
    """Tell whether any value is a condition."""
    if not is_tuple(value, 3) or not is_word(value[0], FIELDS):
        return False
    # The high number is asked first, since the low one is compared with it.
    return is_between(value[2], 0, MOST_NUMBER) and is_between(value[1], 0, value[2])


def is_deed(value):
    """Tell whether any value is a deed."""
    if not is_row(value, 1, 3) or not is_word(value[0], ("in", "out", "none")):
        return False
    if value[0] == "none":
        return len(value) == 1
    if value[0] == "out":
        return len(value) == 2 and is_word(value[1], VESSEL_WORDS)
    return len(value) == 3 and is_word(value[1], VESSEL_WORDS) and is_word(value[2], BERTH_WORDS)


def is_rule(value):
    """Tell whether any value is a rule."""
    if not is_tuple(value, 2) or not is_row(value[0], 0, MOST_CONDITIONS):
        return False
    return all([is_condition(item) for item in value[0]]) and is_deed(value[1])


def is_book(value):
    """Tell whether any value is a book."""
    return is_row(value, 0, MOST_RULES) and all([is_rule(item) for item in value])


def field_of(field, port, tick, state):
    """Return the number that a condition asks for."""
    if field == "tick":
        return tick
    if field == "tide":
        return height_at(port, tick)
    if field == "stops":
        return state[1]
    asked = ROADS if field == "roads" else BERTHED
    return len([place for place in state[0] if place[0] == asked])


def vessel_rank(word, port, state, v):
    """Return a number that is greatest for the vessel that a word chooses."""
    length, draught, _, _, work = port[4][v]
    if word == "first":
        return -v
    if word == "last":
        return v
    if word == "longest":
        return length
    if word == "deepest":
        return draught
    if word == "busiest":
        return work
    where, waited, _ = state[0][v]
    return waited if where == ROADS else 0


def berth_rank(word, port, berth):
    """Return a number that is greatest for the berth that a word chooses."""
    length, depth = port[3][berth]
    if word == "first":
        return -berth
    return -length if word == "tightest" else depth


def first_greatest(numbers, ranks):
    """Return the first one of some numbers that has the greatest rank."""
    return numbers[ranks.index(max(ranks))]


def movement_of(deed, port, state, movements):
    """Return the movement that a deed tells, of those that can happen, or None if it has no vessel."""
    if deed == NO_MOVEMENT:
        return NO_MOVEMENT
    able = [movement for movement in movements if movement[0] == deed[0]]
    if not able:
        return None
    vessels = [movement[1] for movement in able]
    v = first_greatest(vessels, [vessel_rank(deed[1], port, state, vessel) for vessel in vessels])
    if deed[0] == "out":
        return ("out", v)
    berths = [movement[2] for movement in able if movement[1] == v]
    return ("in", v, first_greatest(berths, [berth_rank(deed[2], port, berth) for berth in berths]))


def verdicts(book, port, tick, state):
    """Return the list of the words for the rules up to the one that chooses, and the movement."""
    movements = movements_of(port, tick, state)
    words = []
    for conditions, deed in book:
        if not all([low <= field_of(field, port, tick, state) <= high for field, low, high in conditions]):
            words.append("condition")
            continue
        movement = movement_of(deed, port, state, movements)
        if movement is not None:
            return words + [CHOSEN], movement
        words.append("nobody")
    return words, NO_MOVEMENT


def choice(book, port, tick, state):
    """Return the movement that a book chooses in a state after arrivals."""
    _, movement = verdicts(book, port, tick, state)
    return movement


def reasons(book, port, tick, state):
    """Return the list of the words for the rules up to the one that chooses, or to the last one."""
    words, _ = verdicts(book, port, tick, state)
    return words
