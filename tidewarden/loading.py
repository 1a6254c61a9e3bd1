"""Loading: orders in which a ship stays even, with papers that there is none.

What is loaded is told by an ascending tuple of the numbers of pairs of the load.
"""

from tidewarden.kinds import are_integers, ascends, is_between, is_marked
from tidewarden.ships import moments


def has_ground(load, loaded, k):
    """Tell whether the box of a pair stands on the ground or on a loaded one."""
    bay, row, tier = load[k][0]
    return tier == 0 or (bay, row, tier - 1) in [load[j][0] for j in loaded]


def is_level(ship, load, loaded):
    """Tell whether the trim and the heel of the loaded pairs are within their limits."""
    trim, heel = moments(ship, [load[k] for k in loaded])
    return abs(trim) <= ship[4] and abs(heel) <= ship[5]


def all_of(load):
    """Return the tuple of the numbers of all pairs of a load."""
    return tuple(range(len(load)))


def is_even(ship, load, order):
    """Tell whether any value is an even order for a load."""
    if not are_integers(order) or tuple(sorted(order)) != all_of(load):
        return False
    for many in range(len(order)):
        if not has_ground(load, order[:many], order[many]) or not is_level(ship, load, order[:many + 1]):
            return False
    return True


def next_numbers(ship, load, loaded):
    """Return the list of the numbers that can be loaded next."""
    found = [k for k in range(len(load)) if k not in loaded and has_ground(load, loaded, k)]
    return [k for k in found if is_level(ship, load, loaded + (k,))]


def larger_set(loaded, k):
    """Return what is loaded with one number more."""
    return tuple(sorted(loaded + (k,)))


def ways_of(ship, load):
    """Return a dict from all that can be loaded to the number of its orders, and one of them."""
    ways = {(): (1, ())}
    layer = [()]
    while layer:
        later = {}
        for loaded in layer:
            many, order = ways[loaded]
            for k in next_numbers(ship, load, loaded):
                larger = larger_set(loaded, k)
                before, _ = later.get(larger, (0, ()))
                later[larger] = (before + many, order + (k,))
        for larger in later:
            ways[larger] = later[larger]
        layer = list(later)
    return ways


def even_orders(ship, load):
    """Return the number of the even orders for a load."""
    many, _ = ways_of(ship, load).get(all_of(load), (0, ()))
    return many


def order_paper(ship, load):
    """Return a paper with an even order, or with sets that are never left."""
    ways = ways_of(ship, load)
    if all_of(load) in ways:
        return ("order", ways[all_of(load)][1])
    return ("none", tuple(sorted(ways)))


def is_set(load, value):
    """Tell whether any value is an ascending tuple of some, but not all numbers of pairs."""
    if not are_integers(value) or not ascends(value) or len(value) == len(load):
        return False
    return all([is_between(k, 0, len(load) - 1) for k in value])


def are_closed(ship, load, sets):
    """Tell whether each set that can come of some sets by one number more is among them."""
    listed = {loaded: True for loaded in sets}
    for loaded in sets:
        for k in next_numbers(ship, load, loaded):
            if larger_set(loaded, k) not in listed:
                return False
    return True


def check_order(ship, load, value):
    """Tell whether any value is a right order paper."""
    if is_marked(value, "order", 2):
        return is_even(ship, load, value[1])
    if not is_marked(value, "none", 2) or type(value[1]) is not tuple:
        return False
    sets = value[1]
    if not all([is_set(load, item) for item in sets]) or not ascends(sets):
        return False
    return () in sets and are_closed(ship, load, sets)
