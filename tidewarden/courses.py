"""Courses: what nature does in a day, run with a book or with told movements."""

from tidewarden.books import choice
from tidewarden.errors import BadCourse, NotAllowed
from tidewarden.kinds import are_integers, is_row, is_tuple
from tidewarden.ports import start_state
from tidewarden.ticking import arrivals_of, arrived, moved_state, stops_of, tick_after, worked


def run_tick(port, tick, state, movement, pair):
    """Return the triple of a tick for a pair of a course; raise BadCourse if it cannot happen."""
    arrivals, stops = pair
    try:
        middle, after = tick_after(port, tick, state, arrivals, movement, stops)
    except NotAllowed:
        raise BadCourse(tick) from None
    return (movement, middle, after)


def run(port, book, course):
    """Return the list of the triples of a course with a book; raise BadCourse if it cannot happen."""
    triples = []
    state = start_state(port)
    for tick, pair in enumerate(course):
        # After arrivals that cannot happen any choice will do, since the tick is refused.
        movement = choice(book, port, tick, arrived(state, pair[0]))
        triples.append(run_tick(port, tick, state, movement, pair))
        state = triples[-1][2]
    return triples


def run_with(port, movements, course):
    """Return the list of the triples of a course with movements; raise BadCourse if it cannot happen."""
    triples = []
    state = start_state(port)
    for tick, pair in enumerate(course):
        triples.append(run_tick(port, tick, state, movements[tick], pair))
        state = triples[-1][2]
    return triples


def is_told_tick(value):
    """Tell whether any value is a pair of tuples of integers."""
    return is_tuple(value, 2) and are_integers(value[0]) and are_integers(value[1])


def is_course(port, book, value):
    """Tell whether any value is a course that can happen with a book."""
    if not is_row(value, 0, port[0]) or not all([is_told_tick(pair) for pair in value]):
        return False
    try:
        run(port, book, value)
    except BadCourse:
        return False
    return True


def ticks_from(port, book, tick, state):
    """Return the list of the pairs that can happen at a tick with a book, with the middles and ends.

    They are tuples of the arrivals, the stops, and the states in the middle and at the end,
    in ascending order of the arrivals and the stops.
    """
    found = []
    for arrivals in arrivals_of(port, tick, state):
        here = arrived(state, arrivals)
        middle = moved_state(port, here, choice(book, port, tick, here))
        found.extend([(arrivals, stops, middle, worked(middle, stops)) for stops in stops_of(port, middle)])
    return found


def courses(port, book, ticks):
    """Return the number of the courses with a number of ticks that can happen with a book."""
    ways = {start_state(port): 1}
    for tick in range(ticks):
        later = {}
        for state in ways:
            for _, _, _, after in ticks_from(port, book, tick, state):
                later[after] = later.get(after, 0) + ways[state]
        ways = later
    return sum(ways.values())


def first_course(port, book, ticks):
    """Return the first one of the courses with a number of ticks that can happen with a book."""
    course = ()
    state = start_state(port)
    for tick in range(ticks):
        # Each state has a tick that can happen, so the first one now never ends a course.
        arrivals, stops, _, state = ticks_from(port, book, tick, state)[0]
        course = course + ((arrivals, stops),)
    return course
