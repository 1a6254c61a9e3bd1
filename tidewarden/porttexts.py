"""The texts of ports, courses and promises."""

from tidewarden.errors import BadLine, BadText
from tidewarden.kinds import ascends, is_between, number_in
from tidewarden.ports import (
    DEEPEST, MOST_BERTHS, MOST_STOPS, MOST_TICKS, MOST_VESSELS, is_berth, is_vessel)
from tidewarden.promises import is_promise

# The words that a line of a port's text can begin with behind a line with another one.
FOLLOWERS = {
    "": ("ticks",), "ticks": ("bar",), "bar": ("tide",), "tide": ("berth",), "berth": ("berth", "vessel"),
    "vessel": ("vessel", "stops"), "stops": ()}
NOBODY = "-"
MOST_LINES = 40
# The words between the numbers of a promise.
JOINTS = {"berthed": "by", "gone": "by", "waits": "most", "roads": "most"}


def write_row(word, numbers):
    """Return a line of a word and numbers."""
    return " ".join([word] + [str(number) for number in numbers])


def write_port(port):
    """Return the text of a port."""
    ticks, bar, tide, berths, vessels, stops = port
    lines = [write_row("ticks", (ticks,)), write_row("bar", (bar,)), write_row("tide", tide)]
    lines.extend([write_row("berth", berth) for berth in berths])
    lines.extend([write_row("vessel", vessel) for vessel in vessels])
    return "\n".join(lines + [write_row("stops", (stops,))])


def numbers_of(rows, word):
    """Return the list of the numbers of the rows with a word."""
    return [numbers for told, numbers in rows if told == word]


def is_single(numbers, low, high):
    """Tell whether there is one number, and it is from low to high."""
    return len(numbers) == 1 and is_between(numbers[0], low, high)


def is_next_row(rows, word, numbers):
    """Tell whether a row with a word and numbers can stand behind the rows of a port's text."""
    if word not in FOLLOWERS[rows[-1][0] if rows else ""]:
        return False
    if word == "tide":
        ticks = rows[0][1][0]
        return len(numbers) == ticks and all([is_between(height, 0, DEEPEST) for height in numbers])
    if word == "berth":
        return is_berth(numbers) and len(numbers_of(rows, word)) < MOST_BERTHS
    if word == "vessel":
        return is_vessel(rows[0][1][0], numbers) and len(numbers_of(rows, word)) < MOST_VESSELS
    if word == "ticks":
        return is_single(numbers, 1, MOST_TICKS)
    return is_single(numbers, 0, DEEPEST if word == "bar" else MOST_STOPS)


def read_port(text):
    """Return the port that has a text; raise BadLine if there is none."""
    lines = text.split("\n")
    rows = []
    for k, line in enumerate(lines):
        words = line.split(" ")
        numbers = tuple([number_in(word) for word in words[1:]])
        if not is_next_row(rows, words[0], numbers):
            raise BadLine(k)
        rows.append((words[0], numbers))
    if rows[-1][0] != "stops":
        raise BadLine(len(lines))
    berths = tuple(numbers_of(rows, "berth"))
    vessels = tuple(numbers_of(rows, "vessel"))
    return (rows[0][1][0], rows[1][1][0], rows[2][1], berths, vessels, rows[-1][1][0])


def write_numbers(numbers):
    """Return the text of the numbers of vessels or berths."""
    return " ".join([str(number) for number in numbers]) or NOBODY


def write_pair(pair):
    """Return the line of a pair of a course."""
    arrivals, stops = pair
    return f"arrive {write_numbers(arrivals)} stop {write_numbers(stops)}"


def write_course(course):
    """Return the text of a course."""
    return "\n".join([write_pair(pair) for pair in course])


def numbers_in(words):
    """Return the tuple of ascending numbers from 0 to 9 that some words tell, or None if they do not."""
    if words == [NOBODY]:
        return ()
    numbers = tuple([number_in(word) for word in words])
    if numbers == () or not all([is_between(number, 0, 9) for number in numbers]) or not ascends(numbers):
        return None
    return numbers


def pair_in(line):
    """Return the pair of a course that has a line, or None if there is none."""
    words = line.split(" ")
    if words[0] != "arrive" or "stop" not in words:
        return None
    at = words.index("stop")
    pair = (numbers_in(words[1:at]), numbers_in(words[at + 1:]))
    return None if None in pair else pair


def read_course(text):
    """Return the course that has a text; raise BadLine if there is none."""
    if text == "":
        return ()
    lines = text.split("\n")
    pairs = [pair_in(line) for line in lines[:MOST_LINES]]
    if None in pairs:
        raise BadLine(pairs.index(None))
    if len(lines) > MOST_LINES:
        raise BadLine(MOST_LINES)
    return tuple(pairs)


def write_promise(promise):
    """Return the text of a promise."""
    numbers = [str(number) for number in promise[1:]]
    if promise[0] in JOINTS:
        # The joint stands before the last number.
        numbers = numbers[:-1] + [JOINTS[promise[0]]] + numbers[-1:]
    return " ".join([promise[0]] + numbers)


def read_promise(port, text):
    """Return the promise for a port that has a text; raise BadText if there is none."""
    words = text.split(" ")
    joint = JOINTS.get(words[0], "")
    promise = (words[0],) + tuple([number_in(word) for word in words[1:] if word != joint])
    # Whatever was overlooked, such as a joint at another place, makes the text another one.
    if not is_promise(port, promise) or write_promise(promise) != text:
        raise BadText("not the text of a promise")
    return promise
