"""Spells: finite sets of ticks, told by the first tick and the end of each run of them."""

from tidewarden.errors import BadText
from tidewarden.kinds import is_pair, number_in

NO_SPELLS = "never"


def is_spell(value):
    """Tell whether any value is a pair of ticks, the first one less than the second one."""
    return is_pair(value) and 0 <= value[0] < value[1]


def is_spells(value):
    """Tell whether any value is a tuple of spells that neither overlap nor touch."""
    if type(value) is not tuple or not all([is_spell(item) for item in value]):
        return False
    return all([value[k][1] < value[k + 1][0] for k in range(len(value) - 1)])


def merged(pairs):
    """Return the spells of the ticks that some pairs hold, which stand in order of their begins."""
    found = []
    for begin, end in pairs:
        if found and begin <= found[-1][1]:
            first, last = found[-1]
            found[-1] = (first, max(last, end))
        else:
            found.append((begin, end))
    return tuple(found)


def spells_of(ticks):
    """Return the spells of the ticks of a list."""
    return merged([(tick, tick + 1) for tick in sorted(set(ticks))])


def common(a, b):
    """Return the spells of the ticks that both hold."""
    parts = [(max(one[0], two[0]), min(one[1], two[1])) for one in a for two in b]
    return tuple([(begin, end) for begin, end in parts if begin < end])


def joined(a, b):
    """Return the spells of the ticks that at least one of both holds."""
    return merged(sorted(a + b))


def without(a, b):
    """Return the spells of the ticks that the first one holds, but not the second one."""
    begins = [0] + [end for _, end in b]
    ends = [begin for begin, _ in b] + [max([end for _, end in a], default=0)]
    gaps = [(begin, end) for begin, end in zip(begins, ends) if begin < end]
    return common(a, gaps)


def moved(a, by):
    """Return the spells of the ticks that are greater by an integer, without those below 0."""
    return tuple([(max(0, begin + by), end + by) for begin, end in a if end + by > 0])


def holds(a, tick):
    """Tell whether a tick is held."""
    return any([begin <= tick < end for begin, end in a])


def ticks_in(a):
    """Return the number of the ticks that are held."""
    return sum([end - begin for begin, end in a])


def first_room(a, start, *, lasting=1):
    """Return the least tick from start on at which as many ticks as told are held, or None."""
    for begin, end in a:
        tick = max(begin, start)
        if tick + lasting <= end:
            return tick
    return None


def write_spells(a):
    """Return the text of spells."""
    if not a:
        return NO_SPELLS
    return " ".join([f"{begin}..{end}" for begin, end in a])


def read_spells(text):
    """Return the spells that have a text; raise BadText if there are none."""
    if text == NO_SPELLS:
        return ()
    found = tuple([spell_in(part) for part in text.split(" ")])
    if not is_spells(found):
        raise BadText("not the text of spells")
    return found


def spell_in(part):
    """Return the pair of the two numbers of a spell's text, with None for one that is none."""
    begin, _, end = part.partition("..")
    return (number_in(begin), number_in(end))
