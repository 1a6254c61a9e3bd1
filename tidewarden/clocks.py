"""The clock: ticks as days, hours and quarters of an hour."""

from tidewarden.errors import BadText
from tidewarden.kinds import are_digits, number_in

DAY_TICKS = 96
HOUR_TICKS = 4
TICK_MINUTES = 15
QUARTERS = ("00", "15", "30", "45")
HOURS = 24


def clock(tick):
    """Return the clock text of a tick."""
    day, rest = divmod(tick, DAY_TICKS)
    hour, quarter = divmod(rest, HOUR_TICKS)
    return f"{day}/{hour:02d}:{quarter * TICK_MINUTES:02d}"


def read_clock(text):
    """Return the tick that has a clock text; raise BadText if there is none."""
    day_text, _, rest = text.partition("/")
    day = number_in(day_text)
    if day is None or not is_day_time(rest):
        raise BadText("not a clock text")
    return day * DAY_TICKS + int(rest[:2]) * HOUR_TICKS + QUARTERS.index(rest[3:])


def is_day_time(text):
    """Tell whether a text is an hour and a quarter of it, such as 09:45."""
    if len(text) != 5 or text[2] != ":" or not are_digits(text[:2]):
        return False
    return int(text[:2]) < HOURS and text[3:] in QUARTERS
