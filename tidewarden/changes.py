"""Papers that a change of the book does harm, or that it does none."""

from tidewarden.kinds import is_marked, is_tuple
from tidewarden.outlooks import Outlook, are_layers, are_told_ticks
from tidewarden.ports import start_state


def unbroken(outlook, port, until):
    """Return the layers of the ticks before one without a broken promise, and courses to the last states.

    There is one layer more than ticks, and the courses are a dict from the states of the last one.
    """
    courses = {start_state(port): ()}
    layers = [(start_state(port),)]
    for tick in range(until):
        later = {}
        for now in courses:
            for arrivals, stops, is_broken, after in outlook.outcomes(tick, now):
                if not is_broken and after not in later:
                    later[after] = courses[now] + ((arrivals, stops),)
        courses = later
        layers.append(tuple(sorted(courses)))
    return tuple(layers), courses


def change_paper(port, old, new, tick, promises):
    """Return a paper with a course in which a change of the book does harm, or that it does none."""
    before = Outlook(port, old, promises)
    behind = Outlook(port, new, promises)
    layers, courses = unbroken(before, port, tick)
    answers = []
    for state in layers[-1]:
        kept, way = behind.search(tick, state)
        if way is None:
            answers.append(("kept", kept))
            continue
        kept, old_way = before.search(tick, state)
        if old_way is None:
            return ("harm", courses[state] + way, kept)
        answers.append(("way", old_way))
    return ("safe", layers, tuple(answers))


def does_harm(port, old, new, tick, promises):
    """Tell whether a change of the book at a tick does harm."""
    return change_paper(port, old, new, tick, promises)[0] == "harm"


def is_harm(port, before, behind, tick, course, layers):
    """Tell whether any two values are a course of harm and the layers that the old book would have had."""
    if not are_told_ticks(course, tick + 1, port[0]):
        return False
    told = before.followed(0, start_state(port), course[:tick])
    if len(told) < tick or any([is_broken for is_broken, _ in told]):
        return False
    state = told[-1][1] if told else start_state(port)
    return behind.is_way(tick, state, course[tick:]) and before.are_layers_from(tick, state, layers)


def goes_on(outlook, tick, layer, later):
    """Tell whether each end of a tick from a layer is in the later layer if no promise is broken at the tick."""
    listed = {state: True for state in later}
    for now in layer:
        for _, _, is_broken, after in outlook.outcomes(tick, now):
            if not is_broken and after not in listed:
                return False
    return True


def is_harmless(before, behind, tick, state, value):
    """Tell whether any value shows that the change does no harm from a state at its tick."""
    if is_marked(value, "kept", 2):
        return behind.are_layers_from(tick, state, value[1])
    return is_marked(value, "way", 2) and before.is_way(tick, state, value[1])


def is_safe(port, before, behind, tick, layers, answers):
    """Tell whether any two values are the layers and the answers of a change that does no harm."""
    if not are_layers(port, tick + 1, layers) or start_state(port) not in layers[0]:
        return False
    for k in range(tick):
        if not goes_on(before, k, layers[k], layers[k + 1]):
            return False
    if not is_tuple(answers, len(layers[tick])):
        return False
    for state, answer in zip(layers[tick], answers):
        if not is_harmless(before, behind, tick, state, answer):
            return False
    return True


def check_change(port, old, new, tick, promises, value):
    """Tell whether any value is a right change paper."""
    before = Outlook(port, old, promises)
    behind = Outlook(port, new, promises)
    if is_marked(value, "harm", 3):
        return is_harm(port, before, behind, tick, value[1], value[2])
    return is_marked(value, "safe", 3) and is_safe(port, before, behind, tick, value[1], value[2])
