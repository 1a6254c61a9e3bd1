"""What can happen with a book and promises from a state at a tick to the end of the day.

Layers are a tuple of one ascending tuple of states for each tick and one more, and a way is
a tuple of pairs as a course, whose first pair is that of the tick at which it begins.
"""

from tidewarden.courses import is_told_tick, ticks_from
from tidewarden.kinds import ascends, is_row, is_tuple
from tidewarden.ports import is_state
from tidewarden.promises import broken


def is_any_broken(port, promises, tick, middle, after):
    """Tell whether some promise is broken at a tick by two states."""
    return any([broken(port, promise, tick, middle, after) for promise in promises])


def is_layer(port, value):
    """Tell whether any value is an ascending tuple of states."""
    return type(value) is tuple and all([is_state(port, state) for state in value]) and ascends(value)


def are_layers(port, many, value):
    """Tell whether any value is a tuple of a number of ascending tuples of states."""
    return is_tuple(value, many) and all([is_layer(port, layer) for layer in value])


def are_told_ticks(value, least, most):
    """Tell whether any value is a tuple of pairs as a course, with a number of ticks."""
    return is_row(value, least, most) and all([is_told_tick(pair) for pair in value])


class Outlook:
    """What can happen in a port with a book, and where promises are broken."""

    def __init__(self, port, book, promises):
        self._port = port
        self._book = book
        self._promises = promises
        self._known = {}

    def outcomes(self, tick, state):
        """Return the ascending list of all (arrivals, stops, is_broken, after) of a tick."""
        # The ways from different states soon meet, so each tick is worked out only once.
        key = (tick, state)
        if key not in self._known:
            found = []
            for arrivals, stops, middle, after in ticks_from(self._port, self._book, tick, state):
                is_broken = is_any_broken(self._port, self._promises, tick, middle, after)
                found.append((arrivals, stops, is_broken, after))
            self._known[key] = found
        return self._known[key]

    def search(self, begin, state):
        """Return the layers from a state at a tick and None, or None and a way from it.

        The way is the first one of those with the fewest ticks.
        """
        ways = {state: ()}
        layers = [(state,)]
        for tick in range(begin, self._port[0]):
            later = {}
            # The states stand in the order of their first ways, so each one is met by its first way first.
            for now in ways:
                for arrivals, stops, is_broken, after in self.outcomes(tick, now):
                    if is_broken:
                        return None, ways[now] + ((arrivals, stops),)
                    if after not in later:
                        later[after] = ways[now] + ((arrivals, stops),)
            ways = later
            layers.append(tuple(sorted(ways)))
        return tuple(layers), None

    def leads_on(self, tick, layer, later):
        """Tell whether no promise is broken at a tick from a layer, and all ends are in the later layer."""
        listed = {state: True for state in later}
        for now in layer:
            for _, _, is_broken, after in self.outcomes(tick, now):
                if is_broken or after not in listed:
                    return False
        return True

    def are_layers_from(self, begin, state, value):
        """Tell whether any value is layers from a state at a tick, in which no promise is broken."""
        # A day that is over has no ticks, but still the layer of its end.
        many = max(0, self._port[0] - begin) + 1
        if not are_layers(self._port, many, value) or state not in value[0]:
            return False
        for k in range(len(value) - 1):
            if not self.leads_on(begin + k, value[k], value[k + 1]):
                return False
        return True

    def followed(self, begin, state, pairs):
        """Return the list of the pairs (is_broken, after) of some ticks, as far as they can happen."""
        found = []
        now = state
        for k, pair in enumerate(pairs):
            met = [row for row in self.outcomes(begin + k, now) if row[:2] == pair]
            if not met:
                break
            _, _, is_broken, now = met[0]
            found.append((is_broken, now))
        return found

    def is_way(self, begin, state, value):
        """Tell whether any value is a way from a state at a tick, at whose last tick alone a promise is broken."""
        if not are_told_ticks(value, 1, self._port[0] - begin):
            return False
        told = [is_broken for is_broken, _ in self.followed(begin, state, value)]
        return told == [False] * (len(value) - 1) + [True]
