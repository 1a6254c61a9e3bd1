"""Promises about vessels, the roads and the berths, and when they are broken."""

from tidewarden.courses import run
from tidewarden.kinds import is_between, is_row, is_word
from tidewarden.ports import AWAY, BERTHED, GONE, ROADS
from tidewarden.ticking import aground

WORDS = ("berthed", "gone", "waits", "roads", "afloat", "apart")
LONGEST_WAIT = 40
MOST_IN_ROADS = 4


def is_vessel_of(port, value):
    """Tell whether any value is the number of a vessel of a port."""
    return is_between(value, 0, len(port[4]) - 1)


def is_promise(port, value):
    """Tell whether any value is a promise for a port."""
    if not is_row(value, 1, 3) or not is_word(value[0], WORDS):
        return False
    word = value[0]
    if word == "afloat":
        return len(value) == 1
    if word == "roads":
        return len(value) == 2 and is_between(value[1], 0, MOST_IN_ROADS)
    if len(value) != 3 or not is_vessel_of(port, value[1]):
        return False
    if word == "apart":
        return is_vessel_of(port, value[2]) and value[1] != value[2]
    return is_between(value[2], 0, LONGEST_WAIT if word == "waits" else port[0] - 1)


def are_neighbours(one, two):
    """Tell whether two vessels, told by their triples, lie at berths side by side."""
    return one[0] == BERTHED and two[0] == BERTHED and abs(one[1] - two[1]) == 1


def broken(port, promise, tick, middle, after):
    """Tell whether a promise is broken at a tick by the states in its middle and at its end."""
    word = promise[0]
    places = after[0]
    if word == "afloat":
        return len(aground(port, tick, middle)) > 0
    if word == "roads":
        return len([place for place in places if place[0] == ROADS]) > promise[1]
    v, number = promise[1:]
    if word == "apart":
        return are_neighbours(middle[0][v], middle[0][number])
    if word == "waits":
        return places[v][0] == ROADS and places[v][1] > number
    if word == "gone":
        return tick == number and places[v][0] != GONE
    return tick == number and places[v][0] in (AWAY, ROADS)


def first_break(port, book, promises, course):
    """Return the pair of the first tick at which a promise is broken, and its number, or None."""
    for tick, (_, middle, after) in enumerate(run(port, book, course)):
        for k in range(len(promises)):
            if broken(port, promises[k], tick, middle, after):
                return (tick, k)
    return None
