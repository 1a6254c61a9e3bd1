"""The port: its tide, bar, berths and vessels, and the states that it can be in."""

from tidewarden.kinds import are_integers, is_between, is_row, is_tuple

MOST_TICKS = 40
DEEPEST = 500
LONGEST = 400
MOST_DRAUGHT = 900
MOST_WORK = 9
MOST_BERTHS = 3
MOST_VESSELS = 4
MOST_STOPS = 3

# What the first item of a vessel's triple in a state tells.
AWAY = 0
ROADS = 1
BERTHED = 2
GONE = 3


def is_berth(value):
    """Tell whether any value is a berth."""
    return is_tuple(value, 2) and is_between(value[0], 1, LONGEST) and is_between(value[1], 0, DEEPEST)


def is_vessel(ticks, value):
    """Tell whether any value is a vessel of a port with a number of ticks."""
    if not is_tuple(value, 5):
        return False
    length, draught, early, late, work = value
    if not is_between(length, 1, LONGEST) or not is_between(draught, 0, MOST_DRAUGHT):
        return False
    # The late tick is asked first, since the early one is compared with it.
    return is_between(late, 0, ticks - 1) and is_between(early, 0, late) and is_between(work, 1, MOST_WORK)


def is_port(value):
    """Tell whether any value is a port."""
    if not is_tuple(value, 6):
        return False
    ticks, bar, tide, berths, vessels, stops = value
    if not is_between(ticks, 1, MOST_TICKS) or not is_between(bar, 0, DEEPEST):
        return False
    if not is_tuple(tide, ticks) or not all([is_between(height, 0, DEEPEST) for height in tide]):
        return False
    if not is_row(berths, 1, MOST_BERTHS) or not all([is_berth(berth) for berth in berths]):
        return False
    if not is_row(vessels, 1, MOST_VESSELS) or not all([is_vessel(ticks, vessel) for vessel in vessels]):
        return False
    return is_between(stops, 0, MOST_STOPS)


def is_place(port, vessel, value):
    """Tell whether any value is a triple that tells of a vessel in a state."""
    if not are_integers(value) or len(value) != 3:
        return False
    where, one, two = value
    if where == ROADS:
        return is_between(one, 0, port[0]) and two == 0
    if where == BERTHED:
        return is_between(one, 0, len(port[3]) - 1) and is_between(two, 0, vessel[4])
    return where in (AWAY, GONE) and one == 0 and two == 0


def is_state(port, value):
    """Tell whether any value is a state of a port."""
    if not is_tuple(value, 2) or not is_tuple(value[0], len(port[4])):
        return False
    places, stops = value
    if not all([is_place(port, vessel, place) for vessel, place in zip(port[4], places)]):
        return False
    berths = [berth for where, berth, _ in places if where == BERTHED]
    return len(set(berths)) == len(berths) and is_between(stops, 0, port[5])


def start_state(port):
    """Return the state in which all vessels are away and no crane has stopped."""
    return (tuple([(AWAY, 0, 0) for _ in port[4]]), port[5])
