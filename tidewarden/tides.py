"""Tides: tables of heights that come again and again, and the ticks of open water."""

from tidewarden.kinds import ascends, is_between, is_pair
from tidewarden.spells import spells_of

LEAST_PAIRS = 2
MOST_PAIRS = 20
MOST_PERIOD = 200
MOST_HEIGHT = 500


def is_tide(value):
    """Tell whether any value is a tide table."""
    if type(value) is not tuple or not LEAST_PAIRS <= len(value) <= MOST_PAIRS:
        return False
    if not all([is_pair(item) for item in value]):
        return False
    ticks = [tick for tick, _ in value]
    heights = [height for _, height in value]
    if ticks[0] != 0 or ticks[-1] > MOST_PERIOD or not ascends(ticks):
        return False
    return heights[0] == heights[-1] and all([is_between(height, 0, MOST_HEIGHT) for height in heights])


def period_of(table):
    """Return the number of ticks after which a tide table begins anew."""
    return table[-1][0]


def water(table, tick):
    """Return the water at a tick."""
    rest = tick % period_of(table)
    at = max([k for k in range(len(table) - 1) if table[k][0] <= rest])
    begin, low = table[at]
    end, high = table[at + 1]
    return low + (high - low) * (rest - begin) // (end - begin)


def tide_row(table, ticks):
    """Return the tuple of the water at the ticks below a number."""
    return tuple([water(table, tick) for tick in range(ticks)])


def open_spells(table, need, until):
    """Return the spells of the ticks below a tick at which the water is at least the need."""
    return spells_of([tick for tick in range(until) if water(table, tick) >= need])


def lowest(table, begin, end):
    """Return the least water at the ticks from begin to end - 1, and the first tick that has it."""
    # What comes after a whole period has come before.
    last = min(end, begin + period_of(table))
    return min([(water(table, tick), tick) for tick in range(begin, last)])


def next_open(table, need, start, *, lasting=1):
    """Return the least tick from start on at which the water lasts as long as told, or None."""
    period = period_of(table)
    if min(tide_row(table, period)) >= need:
        return start
    # The water is too low somewhere in each period, so an open time that is not
    # cut by start begins within one period and ends within the next one.
    held = 0
    for tick in range(start, start + 2 * period):
        held = held + 1 if water(table, tick) >= need else 0
        if held == lasting:
            return tick - lasting + 1
    return None
