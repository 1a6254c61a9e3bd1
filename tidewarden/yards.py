"""Yards: stacks of boxes that leave in the order of their numbers."""

from tidewarden.errors import NotAllowed
from tidewarden.kinds import are_integers

MOST_STACKS = 6


def is_yard(value, height):
    """Tell whether any value is a yard whose stacks have at most as many boxes as told."""
    if type(value) is not tuple or not 1 <= len(value) <= MOST_STACKS:
        return False
    if not all([are_integers(stack) and len(stack) <= height for stack in value]):
        return False
    boxes = boxes_of(value)
    return all([box >= 1 for box in boxes]) and len(set(boxes)) == len(boxes)


def boxes_of(yard):
    """Return the list of the boxes of a yard."""
    return [box for stack in yard for box in stack]


def settled_yard(yard):
    """Return the yard from which the next box is taken as long as it stands on a top."""
    stacks = list(yard)
    for box in sorted(boxes_of(yard)):
        tops = [k for k in range(len(stacks)) if stacks[k] and stacks[k][-1] == box]
        if not tops:
            break
        stacks[tops[0]] = stacks[tops[0]][:-1]
    return tuple(stacks)


def is_move(yard, height, i, j):
    """Tell whether the top box of the stack i can be put on the stack j."""
    stacks = range(len(yard))
    if i not in stacks or j not in stacks or i == j:
        return False
    return len(yard[i]) > 0 and len(yard[j]) < height


def yard_moves(yard, height):
    """Return the ascending list of the moves of a yard."""
    stacks = range(len(yard))
    return [(i, j) for i in stacks for j in stacks if is_move(yard, height, i, j)]


def yard_after(yard, height, move):
    """Return the yard after a move; raise NotAllowed if it is none."""
    i, j = move
    if not is_move(yard, height, i, j):
        raise NotAllowed("not a move of this yard")
    stacks = list(yard)
    stacks[j] = stacks[j] + stacks[i][-1:]
    stacks[i] = stacks[i][:-1]
    return settled_yard(tuple(stacks))


def blocking(yard):
    """Return the number of the boxes that stand above a lesser one."""
    many = 0
    for stack in yard:
        for k in range(1, len(stack)):
            if min(stack[:k]) < stack[k]:
                many += 1
    return many
