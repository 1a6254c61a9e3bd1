"""The channel: sections that vessels pass without a stop, inwards and outwards."""

from tidewarden.tides import next_open

INWARDS = "in"


def channel_spells(channel, passage):
    """Return the list of the spells in which a passage is in the sections, in their order."""
    enter, way = passage
    found = []
    for k in range(len(channel)):
        passed = channel[:k] if way == INWARDS else channel[k + 1:]
        begin = enter + sum(passed)
        found.append((begin, begin + channel[k]))
    return found


def is_meeting(channel, one, two):
    """Tell whether two passages with opposite ways are in some section at one tick."""
    ours = channel_spells(channel, one)
    theirs = channel_spells(channel, two)
    return any([a[0] < b[1] and b[0] < a[1] for a, b in zip(ours, theirs)])


def fault_of(channel, headway, one, two):
    """Return the word for the fault of two passages, or None if there is none."""
    if one[1] != two[1]:
        return "meeting" if is_meeting(channel, one, two) else None
    return "close" if abs(one[0] - two[0]) < headway else None


def passage_faults(channel, headway, passages):
    """Return the ascending list of the faults that passages have with each other."""
    found = []
    for j in range(len(passages)):
        for k in range(j + 1, len(passages)):
            word = fault_of(channel, headway, passages[j], passages[k])
            if word is not None:
                found.append((j, k, word))
    return found


def next_try(channel, headway, passages, passage):
    """Return the next tick at which a passage may enter instead, or its own one if it has no fault."""
    enter = passage[0]
    for other in passages:
        word = fault_of(channel, headway, passage, other)
        if word == "close":
            # All ticks up to this one are too close to the same passage.
            return other[0] + headway
        if word == "meeting":
            return enter + 1
    return enter


def next_passage(channel, headway, passages, way, start):
    """Return the least tick from start on at which a further passage has no fault with others."""
    enter = start
    later = next_try(channel, headway, passages, (enter, way))
    while later > enter:
        enter = later
        later = next_try(channel, headway, passages, (enter, way))
    return enter


def next_tidal(channel, headway, passages, way, start, table, need):
    """Return the least such tick at which the water lasts for the whole passage, or None."""
    enter = next_open(table, need, start, lasting=sum(channel))
    while enter is not None:
        free = next_passage(channel, headway, passages, way, enter)
        if free == enter:
            return enter
        enter = next_open(table, need, free, lasting=sum(channel))
    return None
