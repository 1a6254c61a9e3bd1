"""Papers that two books choose alike in all courses, or a course in which they part."""

from tidewarden.books import choice
from tidewarden.courses import is_course, run, ticks_from
from tidewarden.kinds import is_marked
from tidewarden.outlooks import are_layers
from tidewarden.ports import start_state
from tidewarden.ticking import arrivals_of, arrived


def parting(port, one, two, tick, state):
    """Return the first arrivals after which two books choose differently, or None if there are none."""
    for arrivals in arrivals_of(port, tick, state):
        here = arrived(state, arrivals)
        if choice(one, port, tick, here) != choice(two, port, tick, here):
            return arrivals
    return None


def likeness_paper(port, one, two):
    """Return a paper with layers of states, or with the first one of the shortest courses in which two books part."""
    ways = {start_state(port): ()}
    layers = [(start_state(port),)]
    for tick in range(port[0]):
        later = {}
        # The states stand in the order of their first ways, so each one is met by its first way first.
        for state in ways:
            arrivals = parting(port, one, two, tick, state)
            if arrivals is not None:
                return ("course", ways[state] + ((arrivals, ()),))
            for pair_arrivals, stops, _, after in ticks_from(port, one, tick, state):
                if after not in later:
                    later[after] = ways[state] + ((pair_arrivals, stops),)
        ways = later
        layers.append(tuple(sorted(ways)))
    return ("alike", tuple(layers))


def are_alike(port, one, two):
    """Tell whether two books choose the same movements in all courses."""
    return likeness_paper(port, one, two)[0] == "alike"


def go_alike(port, one, two, tick, layer, later):
    """Tell whether two books choose alike at a tick from a layer, and all ends are in the later layer."""
    listed = {state: True for state in later}
    for state in layer:
        if parting(port, one, two, tick, state) is not None:
            return False
        for _, _, _, after in ticks_from(port, one, tick, state):
            if after not in listed:
                return False
    return True


def are_alike_layers(port, one, two, value):
    """Tell whether any value is layers in which two books choose alike."""
    if not are_layers(port, port[0] + 1, value) or start_state(port) not in value[0]:
        return False
    for tick in range(port[0]):
        if not go_alike(port, one, two, tick, value[tick], value[tick + 1]):
            return False
    return True


def is_parting_course(port, one, two, value):
    """Tell whether any value is a course at whose last tick alone two books part, with no stops at it."""
    if not is_course(port, one, value) or len(value) == 0 or value[-1][1] != ():
        return False
    differ = []
    state = start_state(port)
    for tick, (movement, _, after) in enumerate(run(port, one, value)):
        here = arrived(state, value[tick][0])
        differ.append(choice(two, port, tick, here) != movement)
        state = after
    return differ == [False] * (len(value) - 1) + [True]


def check_likeness(port, one, two, value):
    """Tell whether any value is a right likeness paper for a port and two books."""
    if is_marked(value, "alike", 2):
        return are_alike_layers(port, one, two, value[1])
    return is_marked(value, "course", 2) and is_parting_course(port, one, two, value[1])
