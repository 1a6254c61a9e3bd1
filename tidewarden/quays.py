"""The quay: pieces one behind the other, and the vessels that are moored along them."""

from tidewarden.spells import merged, without


def quay_length(quay):
    """Return the sum of the lengths of the pieces of a quay."""
    return sum([length for length, _ in quay])


def pieces_of(quay):
    """Return the list of the triples of the begin, the end and the depth of each piece."""
    found = []
    begin = 0
    for length, depth in quay:
        found.append((begin, begin + length, depth))
        begin += length
    return found


def depth_along(quay, at, length):
    """Return the least depth of the pieces that have a part in a range within the quay."""
    return min([depth for begin, end, depth in pieces_of(quay) if begin < at + length and at < end])


def do_clash(one, two, gap):
    """Tell whether two moorings share a tick and are less than a gap apart."""
    if one[2] >= two[3] or two[2] >= one[3]:
        return False
    return one[0] < two[0] + two[1] + gap and two[0] < one[0] + one[1] + gap


def mooring_faults(quay, moorings, *, gap=0):
    """Return the list of the faults of moorings along a quay."""
    found = []
    for k, mooring in enumerate(moorings):
        at, length, _, _, draught = mooring
        if at < 0 or at + length > quay_length(quay):
            found.append(("outside", k))
        elif draught > depth_along(quay, at, length):
            found.append(("shallow", k))
        found.extend([("clash", j, k) for j in range(k) if do_clash(moorings[j], mooring, gap)])
    return found


def near_places(begin, end, length, gap):
    """Return the spell of the places at which a length comes less than a gap near to a range."""
    return (max(0, begin - length - gap + 1), end + gap)


def free_places(quay, moorings, length, draught, begin, end, *, gap=0):
    """Return, in the form of spells, the places at which a further mooring would have no fault."""
    room = quay_length(quay) - length + 1
    if room < 1:
        return ()
    barred = [near_places(first, last, length, 0) for first, last, depth in pieces_of(quay) if depth < draught]
    for at, other, since, until, _ in moorings:
        if since < end and begin < until:
            barred.append(near_places(at, at + other, length, gap))
    return without(((0, room),), merged(sorted(barred)))


def next_mooring(quay, moorings, length, draught, start, lasting, *, gap=0):
    """Return the least tick from start on at which there is a free place, and the least place, or None."""
    # A place that is not free at a tick can only become free when a mooring ends.
    ends = [mooring[3] for mooring in moorings if mooring[3] > start]
    for begin in [start] + sorted(ends):
        places = free_places(quay, moorings, length, draught, begin, begin + lasting, gap=gap)
        if places:
            return (begin, places[0][0])
    return None
