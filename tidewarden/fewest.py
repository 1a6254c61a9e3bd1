"""The fewest moves that take all boxes out of a yard, with papers that fewer do not suffice."""

from heapq import heappush, heappop

from tidewarden.kinds import ascends, is_marked, is_pair, is_tuple
from tidewarden.yards import blocking, is_move, is_yard, settled_yard, yard_after, yard_moves


def has_boxes(yard):
    """Tell whether some box is in a yard."""
    return any([len(stack) > 0 for stack in yard])


def yards_after(yard, height):
    """Return the list of the yards after each move, in ascending order of the moves."""
    return [yard_after(yard, height, move) for move in yard_moves(yard, height)]


def plan_ends(yard, height, value):
    """Tell whether any value is a plan that takes all boxes out of a yard."""
    if type(value) is not tuple:
        return False
    now = settled_yard(yard)
    for move in value:
        if not is_pair(move) or not is_move(now, height, move[0], move[1]):
            return False
        now = yard_after(now, height, move)
    return not has_boxes(now)


def search(yard, height):
    """Return a yard without boxes, or None, and how each yard that was met came about.

    The second result is a dict from yards to triples of the number of moves, the yard
    before and the last move. If the first one is None, it has all yards that can be reached.
    """
    begin = settled_yard(yard)
    met = {begin: (0, None, None)}
    queue = [(blocking(begin), blocking(begin), begin)]
    while queue:
        _, _, now = heappop(queue)
        if not has_boxes(now):
            return now, met
        many = met[now][0] + 1
        for move in yard_moves(now, height):
            after = yard_after(now, height, move)
            if after not in met or many < met[after][0]:
                met[after] = (many, now, move)
                # A move rids at most one box of blocking, so no plan by this yard is shorter than the sum.
                heappush(queue, (many + blocking(after), blocking(after), after))
    return None, met


def moves_to(end, met):
    """Return the tuple of the moves by which a search came to a yard."""
    moves = []
    _, before, move = met[end]
    while before is not None:
        moves.append(move)
        _, before, move = met[before]
    return tuple(moves[::-1])


def fewest_moves(yard, height):
    """Return the number of moves of a shortest plan, or None if there is no plan."""
    end, met = search(yard, height)
    return None if end is None else met[end][0]


def tree_for(yard, height, moves, known):
    """Return a tree for a number of moves that do not suffice; known keeps those that were made."""
    if blocking(yard) > moves:
        return ("blocked",)
    key = (yard, moves)
    if key not in known:
        further = [tree_for(after, height, moves - 1, known) for after in yards_after(yard, height)]
        known[key] = ("moves", tuple(further))
    return known[key]


def yard_paper(yard, height):
    """Return a paper with a shortest plan, or with yards that are never left."""
    end, met = search(yard, height)
    if end is None:
        return ("never", tuple(sorted(met)))
    plan = moves_to(end, met)
    if not plan:
        return ("plan", (), ())
    return ("plan", plan, tree_for(settled_yard(yard), height, len(plan) - 1, {}))


def is_tree(yard, height, moves, value, known):
    """Tell whether any value is a tree for a number of moves; known keeps what comes after yards."""
    if is_marked(value, "blocked", 1):
        return blocking(yard) > moves
    if moves < 1 or not is_marked(value, "moves", 2) or type(value[1]) is not tuple:
        return False
    if yard not in known:
        known[yard] = yards_after(yard, height)
    further = known[yard]
    if len(value[1]) != len(further) or not all([has_boxes(after) for after in further]):
        return False
    for after, tree in zip(further, value[1]):
        if not is_tree(after, height, moves - 1, tree, known):
            return False
    return True


def are_closed(yards, height):
    """Tell whether each of some yards has a box, and the yards after its moves are among them."""
    listed = {yard: True for yard in yards}
    for yard in yards:
        if not has_boxes(yard) or not all([after in listed for after in yards_after(yard, height)]):
            return False
    return True


def is_never(yard, height, value):
    """Tell whether any value is a tuple of yards that a yard never leaves."""
    if type(value) is not tuple or not all([is_yard(item, height) for item in value]):
        return False
    return ascends(value) and settled_yard(yard) in value and are_closed(value, height)


def check_yard(yard, height, value):
    """Tell whether any value is a right yard paper."""
    if is_marked(value, "never", 2):
        return is_never(yard, height, value[1])
    if not is_marked(value, "plan", 3) or not plan_ends(yard, height, value[1]):
        return False
    if len(value[1]) == 0:
        return is_tuple(value[2], 0)
    # Only a shortest plan has a tree, and what is told for a longer one may be too large to go through.
    if len(value[1]) > fewest_moves(yard, height):
        return False
    return is_tree(settled_yard(yard), height, len(value[1]) - 1, value[2], {})
