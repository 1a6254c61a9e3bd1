"""Stowing: placing boxes in a ship without faults, with papers that it cannot be done.

Boxes are placed in the order of their list: what is called placed is a tuple of
the pairs of slots and boxes, for as many boxes as are placed.
"""

from tidewarden.kinds import is_between, is_marked
from tidewarden.ships import are_against, is_load, is_warm, load_faults, slots_of


def load_of(placed):
    """Return the load of some placed boxes."""
    return tuple(sorted(placed))


def bar_of(ship, table, placed, pair):
    """Return a branch that keeps a box from a slot, told as a pair, or None if there is none."""
    if pair[0] in [slot for slot, _ in placed]:
        return ("taken",)
    if is_warm(ship, pair):
        return ("warm",)
    for j in range(len(placed)):
        if are_against(table, pair, placed[j]):
            return ("against", j)
    return None


def next_pairs(ship, boxes, placed):
    """Return the list of the pairs of each slot and the box that is placed next."""
    return [(slot, boxes[len(placed)]) for slot in slots_of(ship)]


def first_stowing(ship, table, boxes, placed):
    """Return a stowing that some placed boxes can be a part of, or None if there is none."""
    if len(placed) == len(boxes):
        load = load_of(placed)
        return None if load_faults(ship, table, load) else load
    for pair in next_pairs(ship, boxes, placed):
        if bar_of(ship, table, placed, pair) is None:
            load = first_stowing(ship, table, boxes, placed + (pair,))
            if load is not None:
                return load
    return None


def tree_of(ship, table, boxes, placed):
    """Return a tree for some placed boxes that no stowing has as a part."""
    if len(placed) == len(boxes):
        return ("fault",)
    branches = []
    for pair in next_pairs(ship, boxes, placed):
        branch = bar_of(ship, table, placed, pair)
        if branch is None:
            branch = tree_of(ship, table, boxes, placed + (pair,))
        branches.append(branch)
    return ("slots", tuple(branches))


def stow_paper(ship, table, boxes):
    """Return a paper with a stowing of boxes, or with a tree that shows that there is none."""
    load = first_stowing(ship, table, boxes, ())
    if load is not None:
        return ("load", load)
    return ("none", tree_of(ship, table, boxes, ()))


def count_stowings(ship, table, boxes, placed):
    """Return the number of the stowings that some placed boxes are a part of."""
    if len(placed) == len(boxes):
        return 0 if load_faults(ship, table, load_of(placed)) else 1
    many = 0
    for pair in next_pairs(ship, boxes, placed):
        if bar_of(ship, table, placed, pair) is None:
            many += count_stowings(ship, table, boxes, placed + (pair,))
    return many


def stowings(ship, table, boxes):
    """Return the number of the stowings of boxes."""
    return count_stowings(ship, table, boxes, ())


def is_stowing(ship, table, boxes, value):
    """Tell whether any value is a stowing of boxes."""
    if not is_load(ship, value) or sorted([box for _, box in value]) != sorted(boxes):
        return False
    return load_faults(ship, table, value) == []


def is_branch(ship, table, boxes, placed, pair, value):
    """Tell whether any value is a right branch for the slot and the box of a pair."""
    is_taken = pair[0] in [slot for slot, _ in placed]
    if is_marked(value, "taken", 1):
        return is_taken
    if is_marked(value, "warm", 1):
        return is_warm(ship, pair)
    if is_marked(value, "against", 2):
        return is_between(value[1], 0, len(placed) - 1) and are_against(table, pair, placed[value[1]])
    return not is_taken and is_tree(ship, table, boxes, placed + (pair,), value)


def is_tree(ship, table, boxes, placed, value):
    """Tell whether any value is a tree for some placed boxes."""
    if len(placed) == len(boxes):
        return is_marked(value, "fault", 1) and load_faults(ship, table, load_of(placed)) != []
    if not is_marked(value, "slots", 2) or type(value[1]) is not tuple:
        return False
    pairs = next_pairs(ship, boxes, placed)
    if len(value[1]) != len(pairs):
        return False
    for pair, branch in zip(pairs, value[1]):
        if not is_branch(ship, table, boxes, placed, pair, branch):
            return False
    return True


def check_stow(ship, table, boxes, value):
    """Tell whether any value is a right stowing paper."""
    if is_marked(value, "load", 2):
        return is_stowing(ship, table, boxes, value[1])
    return is_marked(value, "none", 2) and is_tree(ship, table, boxes, (), value[1])
