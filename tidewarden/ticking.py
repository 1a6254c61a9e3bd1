"""Ticks of a port: arrivals, one movement, and the work at the berths."""

from tidewarden.errors import NotAllowed
from tidewarden.ports import AWAY, BERTHED, GONE, ROADS

NO_MOVEMENT = ("none",)


def height_at(port, tick):
    """Return the height of the tide at a tick."""
    # A tick after the day is no error, so the last height goes on.
    return port[2][min(tick, len(port[2]) - 1)]


def choices_of(numbers):
    """Return the ascending list of all ascending tuples of some ascending numbers."""
    found = [()]
    for number in numbers:
        found = found + [chosen + (number,) for chosen in found]
    return sorted(found)


def arrivals_of(port, tick, state):
    """Return the ascending list of the arrivals that can happen at a tick."""
    away = [v for v in range(len(port[4])) if state[0][v][0] == AWAY]
    must = [v for v in away if port[4][v][3] <= tick]
    may = [v for v in away if port[4][v][2] <= tick < port[4][v][3]]
    return sorted([tuple(sorted(list(chosen) + must)) for chosen in choices_of(may)])


def arrived(state, arrivals):
    """Return the state after arrivals."""
    places = [(ROADS, 0, 0) if v in arrivals else place for v, place in enumerate(state[0])]
    return (tuple(places), state[1])


def movements_of(port, tick, state):
    """Return the ascending list of the movements that can happen in a state after arrivals."""
    height = height_at(port, tick)
    taken = [berth for where, berth, _ in state[0] if where == BERTHED]
    free = [b for b in range(len(port[3])) if b not in taken]
    found = [NO_MOVEMENT]
    for v, (where, _, needs) in enumerate(state[0]):
        length, draught = port[4][v][:2]
        # Both ways lead over the bar.
        if height + port[1] < draught:
            continue
        if where == ROADS:
            fit = [b for b in free if length <= port[3][b][0] and draught <= height + port[3][b][1]]
            found.extend([("in", v, b) for b in fit])
        elif where == BERTHED and needs == 0:
            found.append(("out", v))
    return sorted(found)


def moved_state(port, state, movement):
    """Return the state after a movement that can happen."""
    places = list(state[0])
    if movement[0] == "in":
        _, v, berth = movement
        places[v] = (BERTHED, berth, port[4][v][4])
    elif movement[0] == "out":
        places[movement[1]] = (GONE, 0, 0)
    return (tuple(places), state[1])


def stops_of(port, state):
    """Return the ascending list of the stops that can happen in a state after a movement."""
    needed = [berth for where, berth, needs in state[0] if where == BERTHED and needs > 0]
    return [stops for stops in choices_of(sorted(needed)) if len(stops) <= state[1]]


def worked_place(place, stops):
    """Return the triple of a vessel at the end of a tick."""
    where, one, two = place
    if where == ROADS:
        return (ROADS, one + 1, 0)
    if where == BERTHED and two > 0 and one not in stops:
        return (BERTHED, one, two - 1)
    return place


def worked(state, stops):
    """Return the state at the end of a tick."""
    return (tuple([worked_place(place, stops) for place in state[0]]), state[1] - len(stops))


def tick_after(port, tick, state, arrivals, movement, stops):
    """Return the states in the middle and at the end of a tick; raise NotAllowed if it cannot happen."""
    if arrivals not in arrivals_of(port, tick, state):
        raise NotAllowed("arrivals that cannot happen")
    here = arrived(state, arrivals)
    if movement not in movements_of(port, tick, here):
        raise NotAllowed("a movement that cannot happen")
    middle = moved_state(port, here, movement)
    if stops not in stops_of(port, middle):
        raise NotAllowed("stops that cannot happen")
    return (middle, worked(middle, stops))


def aground(port, tick, state):
    """Return the ascending list of the vessels at berths without water enough for them."""
    height = height_at(port, tick)
    found = []
    for v, (where, berth, _) in enumerate(state[0]):
        if where == BERTHED and height + port[3][berth][1] < port[4][v][1]:
            found.append(v)
    return found
