"""Papers that some way of choosing keeps the promises, or that nature has an answer to each choice."""

from tidewarden.kinds import are_integers, ascends, is_marked, is_row, is_tuple
from tidewarden.outlooks import is_any_broken
from tidewarden.ports import is_state, start_state
from tidewarden.ticking import arrivals_of, arrived, moved_state, movements_of, stops_of, worked


def ends_of(port, promises, tick, middle):
    """Return the list of the triples (stops, is_broken, after) of a tick, by the state in its middle."""
    found = []
    for stops in stops_of(port, middle):
        after = worked(middle, stops)
        found.append((stops, is_any_broken(port, promises, tick, middle, after), after))
    return found


class Game:
    """Which states at ticks some way of choosing keeps the promises from, as far as it was asked for."""

    def __init__(self, port, promises):
        self._port = port
        self._promises = promises
        self._held = {}
        self._trees = {}

    def is_held(self, tick, state):
        """Tell whether some way of choosing keeps the promises from a state at a tick."""
        key = (tick, state)
        if key not in self._held:
            self._held[key] = tick == self._port[0] or self.spoiling(tick, state) is None
        return self._held[key]

    def spoiling(self, tick, state):
        """Return arrivals after which no movement keeps the promises, or None if there are none."""
        for arrivals in arrivals_of(self._port, tick, state):
            if self.holding(tick, arrived(state, arrivals)) is None:
                return arrivals
        return None

    def holding(self, tick, here):
        """Return a movement that keeps the promises in a state after arrivals, or None if there is none."""
        for movement in movements_of(self._port, tick, here):
            if self.spoiled(tick, moved_state(self._port, here, movement)) is None:
                return movement
        return None

    def spoiled(self, tick, middle):
        """Return the triple (stops, is_broken, after) with stops that spoil a movement, or None."""
        ends = ends_of(self._port, self._promises, tick, middle)
        # A promise that is broken at once needs no further tree, so it is looked for first.
        for end in ends:
            if end[1]:
                return end
        for end in ends:
            if not self.is_held(tick + 1, end[2]):
                return end
        return None

    def tree(self, tick, state):
        """Return a tree for a state at a tick from which no way of choosing keeps the promises."""
        key = (tick, state)
        if key not in self._trees:
            arrivals = self.spoiling(tick, state)
            here = arrived(state, arrivals)
            answers = []
            for movement in movements_of(self._port, tick, here):
                stops, is_broken, after = self.spoiled(tick, moved_state(self._port, here, movement))
                answers.append((stops, () if is_broken else self.tree(tick + 1, after)))
            self._trees[key] = (arrivals, tuple(answers))
        return self._trees[key]

    def row(self, tick, met):
        """Return the dict from the states after the arrivals to movements that keep the promises."""
        found = {}
        for state in met:
            for arrivals in arrivals_of(self._port, tick, state):
                here = arrived(state, arrivals)
                found[here] = self.holding(tick, here)
        return found


def met_after(port, promises, tick, row, met):
    """Return the list of the states that are met after a tick with a row of ways.

    The row is a dict from states to movements. None is returned if a state is not in it,
    or if a promise is broken.
    """
    found = {}
    for state in met:
        for arrivals in arrivals_of(port, tick, state):
            here = arrived(state, arrivals)
            if here not in row:
                return None
            for _, is_broken, after in ends_of(port, promises, tick, moved_state(port, here, row[here])):
                if is_broken:
                    return None
                found[after] = True
    return list(found)


def game_paper(port, promises):
    """Return a paper with ways of choosing that keep the promises, or with a tree that spoils each choice."""
    game = Game(port, promises)
    if not game.is_held(0, start_state(port)):
        return ("spoils", game.tree(0, start_state(port)))
    rows = []
    met = [start_state(port)]
    for tick in range(port[0]):
        row = game.row(tick, met)
        rows.append(tuple(sorted(row.items())))
        met = met_after(port, promises, tick, row, met)
    return ("ways", tuple(rows))


def can_keep(port, promises):
    """Tell whether some way of choosing keeps the promises whatever nature does."""
    return Game(port, promises).is_held(0, start_state(port))


def is_choice(port, tick, value):
    """Tell whether any value is a pair of a state and a movement that can happen in it at a tick."""
    if not is_tuple(value, 2) or not is_state(port, value[0]) or not is_row(value[1], 1, 3):
        return False
    if type(value[1][0]) is not str or not are_integers(value[1][1:]):
        return False
    return value[1] in movements_of(port, tick, value[0])


def is_ways_row(port, tick, value):
    """Tell whether any value is a row of ways for a tick."""
    if type(value) is not tuple or not all([is_choice(port, tick, pair) for pair in value]):
        return False
    return ascends([state for state, _ in value])


def are_ways(port, promises, value):
    """Tell whether any value is rows of ways that keep the promises."""
    if not is_tuple(value, port[0]):
        return False
    met = [start_state(port)]
    for tick, row in enumerate(value):
        if not is_ways_row(port, tick, row):
            return False
        met = met_after(port, promises, tick, {state: movement for state, movement in row}, met)
        if met is None:
            return False
    return True


def is_answer(port, promises, tick, middle, value):
    """Tell whether any value is a right answer to a movement, by the state in the middle of the tick."""
    if not is_tuple(value, 2) or not are_integers(value[0]) or value[0] not in stops_of(port, middle):
        return False
    after = worked(middle, value[0])
    if is_any_broken(port, promises, tick, middle, after):
        return is_tuple(value[1], 0)
    return tick + 1 < port[0] and is_tree(port, promises, tick + 1, after, value[1])


def is_tree(port, promises, tick, state, value):
    """Tell whether any value is a tree for a state at a tick."""
    if not is_tuple(value, 2) or not are_integers(value[0]) or value[0] not in arrivals_of(port, tick, state):
        return False
    here = arrived(state, value[0])
    movements = movements_of(port, tick, here)
    if not is_tuple(value[1], len(movements)):
        return False
    for movement, answer in zip(movements, value[1]):
        if not is_answer(port, promises, tick, moved_state(port, here, movement), answer):
            return False
    return True


def check_game(port, promises, value):
    """Tell whether any value is a right game paper."""
    if is_marked(value, "ways", 2):
        return are_ways(port, promises, value[1])
    return is_marked(value, "spoils", 2) and is_tree(port, promises, 0, start_state(port), value[1])
