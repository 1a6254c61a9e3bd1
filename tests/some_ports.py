"""Ports, states and books for the tests, and the words of the parts 13 to 16 told in another way."""

import itertools

# The port of the document's examples.
P = (4, 10, (5, 0, 5, 5), ((100, 8),), ((80, 12, 0, 1, 1), (60, 9, 0, 0, 2)), 1)
WIDE = (
    12, 100, (0, 5, 10, 5) * 3, ((100, 60), (80, 90), (90, 200)),
    ((80, 60, 0, 3, 2), (60, 105, 1, 1, 1), (100, 90, 0, 9, 3), (90, 110, 2, 4, 9)), 2)
AWAY = (0, 0, 0)
GONE = (3, 0, 0)
WHO = ("first", "last", "longest", "deepest", "busiest", "oldest")
WHERE = ("first", "tightest", "deepest")
FIELDS = ("tick", "tide", "roads", "berthed", "stops")
PROMISE_WORDS = ("berthed", "gone", "waits", "roads", "afloat", "apart")


def waits(ticks):
    return (1, ticks, 0)


def lies(berth, needs):
    return (2, berth, needs)


def some_port(rng, ticks=5, vessels=3, berths=2, work=3):
    ticks = rng.randint(1, ticks)
    tide = tuple(rng.randint(0, 4) for _ in range(ticks))
    many = rng.randint(1, vessels)
    windows = [sorted((rng.randrange(ticks), rng.randrange(ticks))) for _ in range(many)]
    return (
        ticks, rng.randint(3, 9), tide,
        tuple((rng.randint(1, 3), rng.randint(3, 9)) for _ in range(rng.randint(1, berths))),
        tuple((rng.randint(1, 3), rng.randint(1, 11), *window, rng.randint(1, work)) for window in windows),
        rng.randint(0, 3))


def some_state(rng, port):
    ticks, _, _, berths, vessels, stops = port
    places = []
    free = list(range(len(berths)))
    for vessel in vessels:
        kind = rng.choice((0, 1, 1, 2, 2, 3))
        if kind == 2 and free:
            berth = rng.choice(free)
            free.remove(berth)
            places.append(lies(berth, rng.choice((0, rng.randint(0, vessel[4])))))
        else:
            places.append({0: AWAY, 3: GONE}.get(kind, waits(rng.randint(0, ticks))))
    return (tuple(places), rng.randint(0, stops))


def some_book(rng, most=4):
    rules = []
    for _ in range(rng.randint(0, most)):
        conditions = []
        for _ in range(rng.choice((0, 0, 1, 1, 2, 3))):
            low = rng.choice((0, 0, 1, 2, 3))
            conditions.append((rng.choice(FIELDS), low, low + rng.choice((0, 1, 3, 9))))
        deed = rng.choice((("in", rng.choice(WHO), rng.choice(WHERE)),) * 5 + (("out", rng.choice(WHO)),) * 4 + (("none",),))
        rules.append((tuple(conditions), deed))
    return tuple(rules)


def subsets(numbers):
    numbers = list(numbers)
    found = [part for many in range(len(numbers) + 1) for part in itertools.combinations(numbers, many)]
    return sorted(found)


def plain_arrivals(port, tick, state):
    found = []
    for part in subsets(range(len(port[4]))):
        can = all(state[0][v] == AWAY and port[4][v][2] <= tick for v in part)
        forgotten = [
            v for v, place in enumerate(state[0]) if place == AWAY and port[4][v][3] <= tick and v not in part]
        if can and not forgotten:
            found.append(part)
    return found


def plain_arrived(state, arrivals):
    places = list(state[0])
    for v in arrivals:
        places[v] = waits(0)
    return (tuple(places), state[1])


def plain_can(port, tick, state, movement):
    """Tell whether a movement of the right form can happen."""
    bar, height = port[1], port[2][tick]
    if movement == ("none",):
        return True
    length, draught = port[4][movement[1]][:2]
    kind, berth, needs = state[0][movement[1]]
    if movement[0] == "out":
        return kind == 2 and needs == 0 and height + bar >= draught
    if any(place[:2] == (2, movement[2]) for place in state[0]):
        return False
    room, depth = port[3][movement[2]]
    return kind == 1 and length <= room and draught <= min(height + bar, height + depth)


def plain_movements(port, tick, state):
    vessels, berths = range(len(port[4])), range(len(port[3]))
    every = [("in", v, b) for v in vessels for b in berths] + [("none",)] + [("out", v) for v in vessels]
    return [movement for movement in every if plain_can(port, tick, state, movement)]


def plain_moved(port, state, movement):
    places = list(state[0])
    if movement[0] == "in":
        places[movement[1]] = lies(movement[2], port[4][movement[1]][4])
    if movement[0] == "out":
        places[movement[1]] = GONE
    return (tuple(places), state[1])


def plain_stops(port, state):
    busy = {berth for kind, berth, needs in state[0] if kind == 2 and needs}
    return [part for part in subsets(range(len(port[3]))) if set(part) <= busy and len(part) <= state[1]]


def plain_worked(state, stops):
    places = []
    for kind, one, two in state[0]:
        if kind == 1:
            one += 1
        if kind == 2 and one not in stops:
            two = max(0, two - 1)
        places.append((kind, one, two))
    return (tuple(places), state[1] - len(stops))


def plain_tick(port, tick, state, arrivals, movement, stops):
    """The states in the middle and at the end, or None if the tick cannot happen."""
    if arrivals not in plain_arrivals(port, tick, state):
        return None
    here = plain_arrived(state, arrivals)
    if movement not in plain_movements(port, tick, here):
        return None
    middle = plain_moved(port, here, movement)
    if stops not in plain_stops(port, middle):
        return None
    return (middle, plain_worked(middle, stops))


def plain_verdicts(book, port, tick, state):
    """The words for the rules of a book, and the movement, by the points 14.2 and 14.3."""
    numbers = {
        "tick": tick, "tide": port[2][tick], "roads": [place[0] for place in state[0]].count(1),
        "berthed": [place[0] for place in state[0]].count(2), "stops": state[1]}
    words = []
    for conditions, deed in book:
        if not all(numbers[field] in range(low, high + 1) for field, low, high in conditions):
            words.append("condition")
            continue
        if deed[0] == "none":
            return words + ["chosen"], ("none",)
        able = [movement for movement in plain_movements(port, tick, state) if movement[0] == deed[0]]
        if not able:
            words.append("nobody")
            continue
        keys = {
            "first": lambda v: v, "last": lambda v: -v, "longest": lambda v: (-port[4][v][0], v),
            "deepest": lambda v: (-port[4][v][1], v), "busiest": lambda v: (-port[4][v][4], v),
            "oldest": lambda v: (-state[0][v][1] if state[0][v][0] == 1 else 0, v)}
        v = min({movement[1] for movement in able}, key=keys[deed[1]])
        if deed[0] == "out":
            return words + ["chosen"], ("out", v)
        places = {
            "first": lambda b: b, "tightest": lambda b: (port[3][b][0], b), "deepest": lambda b: (-port[3][b][1], b)}
        berth = min({movement[2] for movement in able if movement[1] == v}, key=places[deed[2]])
        return words + ["chosen"], ("in", v, berth)
    return words, ("none",)


def plain_ticks(port, book, tick, state):
    """All (arrivals, stops, movement, middle, after) of a tick with a book."""
    found = []
    for arrivals in plain_arrivals(port, tick, state):
        here = plain_arrived(state, arrivals)
        movement = plain_verdicts(book, port, tick, here)[1]
        middle = plain_moved(port, here, movement)
        for stops in plain_stops(port, middle):
            found.append((arrivals, stops, movement, middle, plain_worked(middle, stops)))
    return found


def plain_start(port):
    return ((AWAY,) * len(port[4]), port[5])


def plain_courses(port, book, ticks):
    """The list of all pairs of a course and its triples, one by one."""
    rows = [((), ())]
    for tick in range(ticks):
        later = []
        for course, triples in rows:
            state = triples[-1][2] if triples else plain_start(port)
            for arrivals, stops, *triple in plain_ticks(port, book, tick, state):
                later.append((course + ((arrivals, stops),), triples + (tuple(triple),)))
        rows = later
    return rows


def some_promise(rng, port):
    vessels, ticks = range(len(port[4])), range(port[0])
    word = rng.choice(PROMISE_WORDS[:5] if len(vessels) == 1 else PROMISE_WORDS)
    if word == "afloat":
        return (word,)
    if word == "roads":
        return (word, rng.randint(0, 2))
    if word == "apart":
        return (word, *rng.sample(vessels, 2))
    return (word, rng.choice(vessels), rng.randint(0, 3) if word == "waits" else rng.choice(ticks))


def plain_broken(port, promise, tick, middle, after):
    """The words of point 16.1."""
    kinds = [place[0] for place in after[0]]
    berths = {v: berth for v, (kind, berth, _) in enumerate(middle[0]) if kind == 2}
    word, *numbers = promise
    if word in ("berthed", "gone"):
        return tick == numbers[1] and kinds[numbers[0]] in ((0, 1) if word == "berthed" else (0, 1, 2))
    if word == "waits":
        return after[0][numbers[0]] in [waits(w) for w in range(numbers[1] + 1, 99)]
    if word == "roads":
        return kinds.count(1) > numbers[0]
    if word == "afloat":
        return any(port[2][tick] + port[3][berth][1] < port[4][v][1] for v, berth in berths.items())
    return set(numbers) <= set(berths) and berths[numbers[0]] - berths[numbers[1]] in (-1, 1)
