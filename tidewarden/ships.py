"""Ships: their slots, the loads in them, and the faults of loads."""

from tidewarden.boxes import distance_of, is_box
from tidewarden.kinds import are_integers, ascends, is_between, is_tuple

LONGEST_SIDE = 4
COLD = "cold"


def is_slot(ship, value):
    """Tell whether any value is a slot of a ship, of which the first three items are asked."""
    if not are_integers(value) or len(value) != 3:
        return False
    return all([0 <= value[k] < ship[k] for k in range(3)])


def is_limit(value):
    """Tell whether any value is a limit for the trim or the heel."""
    return type(value) is int and value >= 0


def is_ship(value):
    """Tell whether any value is a ship."""
    if not is_tuple(value, 6) or not all([is_between(side, 1, LONGEST_SIDE) for side in value[:3]]):
        return False
    plugs = value[3]
    if type(plugs) is not tuple or not all([is_slot(value, plug) for plug in plugs]):
        return False
    return ascends(plugs) and is_limit(value[4]) and is_limit(value[5])


def slots_of(ship):
    """Return the ascending list of all slots of a ship."""
    bays, rows, tiers = ship[:3]
    return [(bay, row, tier) for bay in range(bays) for row in range(rows) for tier in range(tiers)]


def is_loaded(ship, value):
    """Tell whether any value is a pair of a slot of a ship and a box."""
    return is_tuple(value, 2) and is_slot(ship, value[0]) and is_box(value[1])


def is_load(ship, value):
    """Tell whether any value is a load of a ship."""
    if type(value) is not tuple or not all([is_loaded(ship, item) for item in value]):
        return False
    codes = [box[0] for _, box in value]
    return ascends([slot for slot, _ in value]) and len(set(codes)) == len(codes)


def moments(ship, load):
    """Return the pair of the trim and the heel of a load."""
    bays, rows = ship[:2]
    trim = sum([box[1] * (2 * slot[0] - (bays - 1)) for slot, box in load])
    heel = sum([box[1] * (2 * slot[1] - (rows - 1)) for slot, box in load])
    return (trim, heel)


def stands_on(one, two):
    """Tell whether a slot is the one directly above another."""
    return one[:2] == two[:2] and one[2] == two[2] + 1


def stands_over(one, two):
    """Tell whether a slot is somewhere above another in the same bay and row."""
    return one[:2] == two[:2] and one[2] > two[2]


def does_crush(one, two):
    """Tell whether a loaded box stands on another that is lighter."""
    return stands_on(one[0], two[0]) and two[1][1] < one[1][1]


def does_cover(one, two):
    """Tell whether a loaded box stands over another that is unloaded at a lesser port."""
    return stands_over(one[0], two[0]) and two[1][3] < one[1][3]


def is_warm(ship, loaded):
    """Tell whether a loaded box is cold and has no plug."""
    slot, box = loaded
    return box[2] == COLD and slot not in ship[3]


def is_near(table, one, two):
    """Tell whether two loaded boxes are nearer than a table of distances allows."""
    apart = max([abs(one[0][k] - two[0][k]) for k in range(3)])
    return apart < distance_of(table, one[1][2], two[1][2])


def are_against(table, one, two):
    """Tell whether two loaded boxes have a fault with each other, whatever else is loaded."""
    if does_crush(one, two) or does_crush(two, one):
        return True
    return does_cover(one, two) or does_cover(two, one) or is_near(table, one, two)


def faults_of(ship, table, load, k):
    """Return the list of the faults of one pair of a load."""
    one = load[k]
    slot = one[0]
    found = []
    if slot[2] > 0 and not any([stands_on(slot, other[0]) for other in load]):
        found.append(("floats", slot))
    if any([does_crush(one, other) for other in load]):
        found.append(("crushes", slot))
    if any([does_cover(one, other) for other in load]):
        found.append(("covers", slot))
    if is_warm(ship, one):
        found.append(("warm", slot))
    return found + [("near", slot, other[0]) for other in load[k + 1:] if is_near(table, one, other)]


def load_faults(ship, table, load):
    """Return the list of the faults of a load."""
    found = []
    for k in range(len(load)):
        found.extend(faults_of(ship, table, load, k))
    trim, heel = moments(ship, load)
    if abs(trim) > ship[4]:
        found.append(("trim", trim))
    if abs(heel) > ship[5]:
        found.append(("heel", heel))
    return found
