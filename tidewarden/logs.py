"""The logs of courses: what happens in each tick, line by line."""

from tidewarden.books import choice
from tidewarden.clocks import clock
from tidewarden.courses import run, ticks_from
from tidewarden.errors import BadLine, BadText
from tidewarden.ports import BERTHED, start_state
from tidewarden.ticking import arrived


def movement_lines(movement):
    """Return the list of the lines of a movement, one or none."""
    if movement[0] == "in":
        return [f"{movement[1]} goes in to {movement[2]}"]
    return [f"{movement[1]} goes out"] if movement[0] == "out" else []


def has_work(place):
    """Tell whether a vessel, told by its triple, needs work."""
    return place[0] == BERTHED and place[2] > 0


def tick_lines(tick, pair, triple):
    """Return the list of the lines of a tick, by its pair of a course and its triple of a run."""
    arrivals, stops = pair
    movement, middle, after = triple
    lines = [f"tick {tick}"] + [f"{v} arrives" for v in arrivals] + movement_lines(movement)
    done = [v for v in range(len(middle[0])) if has_work(middle[0][v]) and not has_work(after[0][v])]
    return lines + [f"{berth} stops" for berth in stops] + [f"{v} is done" for v in done]


def lines_of(course, triples):
    """Return the list of the lists of the lines of each tick, by its pairs and its triples."""
    return [tick_lines(tick, pair, triples[tick]) for tick, pair in enumerate(course)]


def log_of(port, book, course):
    """Return the log of a course that can happen with a book."""
    return [line for lines in lines_of(course, run(port, book, course)) for line in lines]


def tick_logs(port, book, tick, state):
    """Return the list of the triples (lines, pair, after) of all that can happen at a tick with a book."""
    found = []
    for arrivals, stops, middle, after in ticks_from(port, book, tick, state):
        movement = choice(book, port, tick, arrived(state, arrivals))
        lines = tick_lines(tick, (arrivals, stops), (movement, middle, after))
        found.append((lines, (arrivals, stops), after))
    return found


def lines_until(lines, at, end):
    """Return the list of the lines from a place on, up to the first one that is the same as the end."""
    found = []
    for line in lines[at:]:
        if line == end:
            break
        found.append(line)
    return found


def common_lines(one, two):
    """Return the number of the lines in which two lists of lines begin alike."""
    many = 0
    while many < min(len(one), len(two)) and one[many] == two[many]:
        many += 1
    return many


def read_log(port, book, lines):
    """Return the course that has a log; raise BadLine if there is none."""
    course = ()
    state = start_state(port)
    at = 0
    while at < len(lines):
        tick = len(course)
        told = lines_until(lines, at, f"tick {tick + 1}")
        logs = tick_logs(port, book, tick, state) if tick < port[0] else []
        right = [(pair, after) for log, pair, after in logs if log == told]
        if not right:
            # A log that ends too early is bad at the line that follows, whether it is there or not.
            raise BadLine(at + max([0] + [common_lines(log, told) for log, _, _ in logs]))
        pair, state = right[0]
        course = course + (pair,)
        at += len(told)
    return course


def journal(port, book, course):
    """Return the log of a course that can happen with a book as one text with the times of the day."""
    found = []
    for tick, lines in enumerate(lines_of(course, run(port, book, course))):
        found.extend([f"{clock(tick)} {line}" for line in lines])
    return "\n".join(found)


def read_journal(port, book, text):
    """Return the course that has a journal; raise BadText if there is none."""
    if text == "":
        return ()
    lines = [line.partition(" ")[2] for line in text.split("\n")]
    try:
        course = read_log(port, book, lines)
    except BadLine:
        raise BadText("not the log of a course") from None
    if journal(port, book, course) != text:
        raise BadText("not the times of a log")
    return course
