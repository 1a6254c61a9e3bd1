"""Boxes with different codes, and ships, for the tests of the parts about ships."""

import random

KINDS = ("plain", "cold", "d1", "d2", "d3")
TABLES = ((), (("d1", "d1", 2), ("d1", "d2", 3)), (("d1", "d2", 1), ("d2", "d2", 2), ("d2", "d3", 5)))
VALUES = dict(zip("ABCDEFGHIJKLMNOPQRSTUVWXYZ", [n for n in range(10, 39) if n % 11]))


def code(k):
    text = f"ABCU{k:06d}"
    total = sum(VALUES.get(sign, ord(sign) - 48) << place for place, sign in enumerate(text))
    return text + str(total % 11)[-1]


def box(k, weight=1, kind="plain", port=1):
    return (code(k), weight, kind, port)


def some_ship(rng, sides, limits):
    bays, rows, tiers = rng.choice(sides)
    slots = [(b, r, t) for b in range(bays) for r in range(rows) for t in range(tiers)]
    plugs = tuple(slot for slot in slots if rng.random() < 0.5)
    return (bays, rows, tiers, plugs, rng.choice(limits), rng.choice(limits))


def some_box(rng, k, kinds=KINDS):
    return box(k, rng.randint(1, 3), rng.choice(kinds), rng.randint(1, 3))


def some_load(rng, ship, many):
    slots = [(b, r, t) for b in range(ship[0]) for r in range(ship[1]) for t in range(ship[2])]
    chosen = sorted(rng.sample(slots, min(many, len(slots))))
    codes = rng.sample(range(1000), len(chosen))
    return tuple((slot, some_box(rng, k)) for slot, k in zip(chosen, codes))


def plain_faults(ship, table, load):
    """The words of point 9.3."""
    boxes = dict(load)
    told = {}
    for one, two, distance in table:
        told[one, two] = told[two, one] = distance
    found = []
    for slot in sorted(boxes):
        _, weight, kind, port = boxes[slot]
        bay, row, tier = slot
        column = [boxes.get((bay, row, t)) for t in range(tier)]
        if tier and column[-1] is None:
            found.append(("floats", slot))
        if tier and column[-1] is not None and column[-1][1] < weight:
            found.append(("crushes", slot))
        if min([10] + [other[3] for other in column if other]) < port:
            found.append(("covers", slot))
        if kind == "cold" and slot not in set(ship[3]):
            found.append(("warm", slot))
        for other in sorted(boxes):
            if other > slot and max(abs(a - b) for a, b in zip(slot, other)) < told.get((kind, boxes[other][2]), 0):
                found.append(("near", slot, other))
    trim = heel = 0
    for (bay, row, _), (_, weight, _, _) in load:
        trim += weight * bay - weight * (ship[0] - 1 - bay)
        heel += weight * row - weight * (ship[1] - 1 - row)
    if not -ship[4] <= trim <= ship[4]:
        found.append(("trim", trim))
    if not -ship[5] <= heel <= ship[5]:
        found.append(("heel", heel))
    return found
