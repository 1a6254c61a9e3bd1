"""Cranes on one rail: shares of works, with papers that no share is better."""

from tidewarden.kinds import are_integers, ascends, is_tuple


def is_share(works, cranes, value):
    """Tell whether any value is a share of works for a number of cranes."""
    if not are_integers(value) or len(value) != cranes + 1:
        return False
    if value[0] != 0 or value[-1] != len(works):
        return False
    return all([value[i] <= value[i + 1] for i in range(cranes)])


def loads(works, share):
    """Return the list of the sums of the works that each crane has in a share."""
    return [sum(works[share[i]:share[i + 1]]) for i in range(len(share) - 1)]


def cranes_needed(works, most):
    """Return the least number of cranes with loads up to most, which is at least each work."""
    many = 0
    load = 0
    for work in works:
        if many == 0 or load + work > most:
            many += 1
            load = 0
        load += work
    return many


def least_load(works, cranes):
    """Return the least greatest load that a share can have."""
    ends = range(len(works) + 1)
    sums = [sum(works[begin:end]) for end in ends for begin in range(end)]
    usable = [load for load in sums if load >= max(works) and cranes_needed(works, load) <= cranes]
    return min(usable)


def best_share(works, cranes):
    """Return the first one of the shares whose greatest load is least."""
    most = least_load(works, cranes)
    share = [0]
    for left in reversed(range(cranes)):
        ends = range(share[-1], len(works) + 1)
        # The least end behind which the cranes that are left suffice keeps this load low, too.
        share.append(min([end for end in ends if cranes_needed(works[end:], most) <= left]))
    return tuple(share)


def crane_paper(works, cranes):
    """Return a best share, and bays that show that no share has a lesser greatest load."""
    share = best_share(works, cranes)
    most = max(loads(works, share))
    heavy = [bay for bay in range(len(works)) if works[bay] >= most]
    if heavy:
        return (share, (heavy[0],))
    bays = [0]
    for bay in range(1, len(works)):
        # Cranes that are filled from the left with less than most each do not
        # come to the end, so the list gets one bay more than there are cranes.
        if len(bays) <= cranes and sum(works[bays[-1]:bay + 1]) >= most:
            bays.append(bay)
    return (share, tuple(bays))


def check_cranes(works, cranes, value):
    """Tell whether any value is a right crane paper."""
    if not is_tuple(value, 2) or not is_share(works, cranes, value[0]):
        return False
    share, bays = value
    if not are_integers(bays) or not ascends(bays) or not all([0 <= bay < len(works) for bay in bays]):
        return False
    most = max(loads(works, share))
    if len(bays) == 1:
        return works[bays[0]] >= most
    if len(bays) != cranes + 1:
        return False
    return all([sum(works[bays[k]:bays[k + 1] + 1]) >= most for k in range(cranes)])


def crane_ticks(works, share):
    """Return the list of the tuples of the bays at which the cranes work, for each tick."""
    rows = []
    for i in range(len(share) - 1):
        rows.append([bay for bay in range(share[i], share[i + 1]) for _ in range(works[bay])])
    ticks = range(max(loads(works, share)))
    return [tuple([row[tick] if tick < len(row) else None for row in rows]) for tick in ticks]
