"""The words of the points 16.3 to 18.3 told in another way, one by one and without keeping anything."""

from some_ports import (
    plain_arrivals, plain_arrived, plain_broken, plain_moved, plain_movements, plain_start, plain_stops, plain_ticks,
    plain_verdicts, plain_worked, some_state)

from tidewarden.ports import is_state


def is_exact(value):
    """Tell whether a value is made of integers, strings and tuples only, of no class of their own."""
    if type(value) is tuple:
        return all(is_exact(part) for part in value)
    return type(value) in (int, str)


def breaks_of(port, promises, tick, middle, after):
    return [k for k, promise in enumerate(promises) if plain_broken(port, promise, tick, middle, after)]


def futures_of(port, book, tick, state, end=None):
    """All lists of (arrivals, stops, movement, middle, after) from a state at a tick to an end."""
    if tick == (port[0] if end is None else end):
        return [[]]
    found = []
    for row in plain_ticks(port, book, tick, state):
        found += [[row] + rest for rest in futures_of(port, book, tick + 1, row[4], end)]
    return found


def is_unbroken(port, promises, tick, rows):
    return not any(breaks_of(port, promises, tick + k, row[3], row[4]) for k, row in enumerate(rows))


def keeps_from(port, book, promises, tick, state):
    return all(is_unbroken(port, promises, tick, rows) for rows in futures_of(port, book, tick, state))


def pairs_of(rows):
    return tuple(row[:2] for row in rows)


def breaking_ways(port, book, promises, tick, state):
    """All ways from a state at a tick with a promise broken at the last tick alone."""
    found = []
    for ticks in range(1, port[0] - tick + 1):
        for rows in futures_of(port, book, tick, state, tick + ticks):
            whole = is_unbroken(port, promises, tick, rows[:-1])
            if whole and not is_unbroken(port, promises, tick, rows):
                found.append(pairs_of(rows))
    return found


def has_layers(port, many, value):
    """Tell whether a value is a number of ascending tuples of states."""
    if type(value) is not tuple or len(value) != many or not is_exact(value):
        return False
    for layer in value:
        if type(layer) is not tuple or not all(is_state(port, state) for state in layer):
            return False
        if list(layer) != sorted(set(layer)):
            return False
    return True


def right_layers(port, book, promises, tick, state, value):
    """Tell whether a value is layers from a state at a tick without a broken promise."""
    if not has_layers(port, port[0] - tick + 1, value) or state not in value[0]:
        return False
    for k in range(len(value) - 1):
        for now in value[k]:
            for *_, middle, after in plain_ticks(port, book, tick + k, now):
                if breaks_of(port, promises, tick + k, middle, after) or after not in value[k + 1]:
                    return False
    return True


def right_book(port, book, promises, value):
    """Tell whether a value is right by the words of point 16.3."""
    if type(value) is not tuple or len(value) != 2 or type(value[0]) is not str:
        return False
    if value[0] == "kept":
        return right_layers(port, book, promises, 0, plain_start(port), value[1])
    if value[0] != "course" or not is_exact(value[1]):
        return False
    return value[1] in breaking_ways(port, book, promises, 0, plain_start(port))


def right_likeness(port, one, two, value):
    """Tell whether a value is right by the words of point 18.1."""
    if type(value) is not tuple or len(value) != 2 or type(value[0]) is not str or not is_exact(value[1]):
        return False
    if value[0] == "course":
        return value[1] in parting_courses(port, one, two)
    if value[0] != "alike" or not right_layers(port, one, (), 0, plain_start(port), value[1]):
        return False
    return not any(
        parts(port, one, two, tick, state) for tick in range(port[0]) for state in value[1][tick])


def movement_of(port, book, tick, state, arrivals):
    return plain_verdicts(book, port, tick, plain_arrived(state, arrivals))[1]


def parts(port, one, two, tick, state):
    return any(
        movement_of(port, one, tick, state, arrivals) != movement_of(port, two, tick, state, arrivals)
        for arrivals in plain_arrivals(port, tick, state))


def parting_courses(port, one, two):
    """All courses at whose last tick alone two books choose differently, and that end without stops."""
    found = []
    for ticks in range(1, port[0] + 1):
        for rows in futures_of(port, one, 0, plain_start(port), ticks):
            state, differ = plain_start(port), []
            for tick, (arrivals, _, movement, _, after) in enumerate(rows):
                differ.append(movement_of(port, two, tick, state, arrivals) != movement)
                state = after
            if differ.index(True) == ticks - 1 if True in differ else False:
                if rows[-1][1] == ():
                    found.append(pairs_of(rows))
    return found


def unbroken_starts(port, old, tick, promises):
    """All lists of the rows of the ticks before one with the old book in which no promise is broken."""
    return [
        rows for rows in futures_of(port, old, 0, plain_start(port), tick) if is_unbroken(port, promises, 0, rows)]


def end_of(port, rows):
    return rows[-1][4] if rows else plain_start(port)


def plain_harm(port, old, new, tick, promises):
    """Tell whether the change does harm by the words of point 18.3."""
    for rows in unbroken_starts(port, old, tick, promises):
        state = end_of(port, rows)
        if keeps_from(port, old, promises, tick, state) and not keeps_from(port, new, promises, tick, state):
            return True
    return False


def right_harm(port, old, new, tick, promises, course, layers):
    for rows in unbroken_starts(port, old, tick, promises):
        if pairs_of(rows) == course[:tick]:
            state = end_of(port, rows)
            if course[tick:] in breaking_ways(port, new, promises, tick, state):
                return right_layers(port, old, promises, tick, state, layers)
    return False


def right_safe(port, old, new, tick, promises, layers, answers):
    if not has_layers(port, tick + 1, layers) or plain_start(port) not in layers[0]:
        return False
    for k in range(tick):
        for state in layers[k]:
            for *_, middle, after in plain_ticks(port, old, k, state):
                if not breaks_of(port, promises, k, middle, after) and after not in layers[k + 1]:
                    return False
    if type(answers) is not tuple or len(answers) != len(layers[tick]):
        return False
    for state, answer in zip(layers[tick], answers):
        if type(answer) is not tuple or len(answer) != 2 or type(answer[0]) is not str:
            return False
        if answer[0] == "kept" and right_layers(port, new, promises, tick, state, answer[1]):
            continue
        if answer[0] != "way" or answer[1] not in breaking_ways(port, old, promises, tick, state):
            return False
    return True


def right_change(port, old, new, tick, promises, value):
    """Tell whether a value is right by the words of point 18.3."""
    if type(value) is not tuple or len(value) != 3 or not is_exact(value):
        return False
    if value[0] == "harm":
        return type(value[1]) is tuple and right_harm(port, old, new, tick, promises, value[1], value[2])
    return value[0] == "safe" and right_safe(port, old, new, tick, promises, value[1], value[2])


def holds_from(port, promises, tick, state):
    """Tell whether some way of choosing keeps the promises from a state at a tick, by going through all."""
    if tick == port[0]:
        return True
    for arrivals in plain_arrivals(port, tick, state):
        here = plain_arrived(state, arrivals)
        if not any(holds_by(port, promises, tick, here, movement) for movement in plain_movements(port, tick, here)):
            return False
    return True


def holds_by(port, promises, tick, here, movement):
    middle = plain_moved(port, here, movement)
    for stops in plain_stops(port, middle):
        after = plain_worked(middle, stops)
        if breaks_of(port, promises, tick, middle, after) or not holds_from(port, promises, tick + 1, after):
            return False
    return True


def right_ways(port, promises, rows):
    if type(rows) is not tuple or len(rows) != port[0]:
        return False
    for tick, row in enumerate(rows):
        if type(row) is not tuple or not all(type(pair) is tuple and len(pair) == 2 for pair in row):
            return False
        states = [pair[0] for pair in row]
        if not all(is_state(port, state) for state in states) or states != sorted(set(states)):
            return False
        if not all(pair[1] in plain_movements(port, tick, pair[0]) for pair in row):
            return False
    met = {plain_start(port)}
    for tick, row in enumerate(rows):
        chosen, later = dict(row), set()
        for state in met:
            for arrivals in plain_arrivals(port, tick, state):
                here = plain_arrived(state, arrivals)
                if here not in chosen:
                    return False
                middle = plain_moved(port, here, chosen[here])
                for stops in plain_stops(port, middle):
                    later.add(plain_worked(middle, stops))
                    if breaks_of(port, promises, tick, middle, plain_worked(middle, stops)):
                        return False
        met = later
    return True


def right_tree(port, promises, tick, state, tree):
    if type(tree) is not tuple or len(tree) != 2 or tree[0] not in plain_arrivals(port, tick, state):
        return False
    here = plain_arrived(state, tree[0])
    movements = plain_movements(port, tick, here)
    if type(tree[1]) is not tuple or len(tree[1]) != len(movements):
        return False
    for movement, answer in zip(movements, tree[1]):
        middle = plain_moved(port, here, movement)
        if type(answer) is not tuple or len(answer) != 2 or answer[0] not in plain_stops(port, middle):
            return False
        after = plain_worked(middle, answer[0])
        if breaks_of(port, promises, tick, middle, after):
            if answer[1] != ():
                return False
        elif tick == port[0] - 1 or not right_tree(port, promises, tick + 1, after, answer[1]):
            return False
    return True


def right_game(port, promises, value):
    """Tell whether a value is right by the words of point 17.1."""
    if type(value) is not tuple or len(value) != 2 or not is_exact(value):
        return False
    if value[0] == "ways":
        return right_ways(port, promises, value[1])
    return value[0] == "spoils" and right_tree(port, promises, 0, plain_start(port), value[1])


def larger_layers(rng, port, book, promises, tick, layers, many=3):
    """Layers with some states more and all that follows from them, or the same ones if that breaks a promise."""
    found = [set(layer) for layer in layers]
    for k in range(len(layers)):
        for state in [some_state(rng, port) for _ in range(many)]:
            new = [set(layer) for layer in found]
            new[k].add(state)
            for at in range(k, len(layers) - 1):
                for now in sorted(new[at] - found[at]):
                    for *_, after in plain_ticks(port, book, tick + at, now):
                        new[at + 1].add(after)
            value = tuple(tuple(sorted(layer)) for layer in new)
            if all(is_state(port, now) for layer in value for now in layer):
                if all(right_layers(port, book, promises, tick, now, value) for now in value[0][:1]):
                    found = new
    return tuple(tuple(sorted(layer)) for layer in found)
