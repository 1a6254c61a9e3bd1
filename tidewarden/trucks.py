"""Trucks: appointments at a gate, with papers that no more trucks can be served."""

from tidewarden.kinds import are_integers, ascends, is_between, is_tuple


def is_hour_of(wishes, value):
    """Tell whether any value is None or one of some wished hours."""
    return value is None or (type(value) is int and value in wishes)


def is_appointment(room, wishes, value):
    """Tell whether any value is an appointment."""
    if not is_tuple(value, len(wishes)):
        return False
    if not all([is_hour_of(hours, hour) for hours, hour in zip(wishes, value)]):
        return False
    return all([value.count(hour) <= room[hour] for hour in range(len(room))])


def hours_reached(wishes, given):
    """Return a dict from the hours that could be asked to make room for a truck without one.

    Its values are the trucks that would take the hours: they have none now, or an hour that
    is reached itself.
    """
    takers = {}
    trucks = [truck for truck in range(len(wishes)) if given[truck] is None]
    while trucks:
        truck = trucks.pop()
        for hour in wishes[truck]:
            if hour not in takers:
                takers[hour] = truck
                trucks.extend([other for other in range(len(given)) if given[other] == hour])
    return takers


def most_given(room, wishes):
    """Return the list of the hours that the trucks have if the most of them are served."""
    given = [None for _ in wishes]
    takers = hours_reached(wishes, given)
    spare = [hour for hour in takers if room[hour] > 0]
    while spare:
        hour = spare[0]
        while hour is not None:
            truck = takers[hour]
            given[truck], hour = hour, given[truck]
        takers = hours_reached(wishes, given)
        spare = [hour for hour in takers if given.count(hour) < room[hour]]
    return given


def served(given):
    """Return the number of the trucks that have an hour."""
    return len([hour for hour in given if hour is not None])


def gate_paper(room, wishes):
    """Return an appointment, and hours that show that no appointment serves more trucks."""
    given = most_given(room, wishes)
    # No hour that is reached has room left, and whoever has one wishes only such hours.
    return (tuple(given), tuple(sorted(hours_reached(wishes, given))))


def check_gate(room, wishes, value):
    """Tell whether any value is a right gate paper."""
    if not is_tuple(value, 2) or not is_appointment(room, wishes, value[0]):
        return False
    given, hours = value
    if not are_integers(hours) or not ascends(hours):
        return False
    if not all([is_between(hour, 0, len(room) - 1) for hour in hours]):
        return False
    others = [truck for truck in wishes if not all([hour in hours for hour in truck])]
    return served(given) == sum([room[hour] for hour in hours]) + len(others)


def most_trucks(room, wishes):
    """Return the greatest number of trucks that an appointment serves."""
    return served(most_given(room, wishes))


def first_hour(room, wishes):
    """Return the first hour, or None, that the first truck has if the most trucks are served."""
    most = most_trucks(room, wishes)
    for hour in wishes[0]:
        if room[hour] > 0 and most_trucks(less_room(room, hour), wishes[1:]) == most - 1:
            return hour
    return None


def less_room(room, hour):
    """Return the room with one place less in an hour, if it is no None."""
    return tuple([room[k] - 1 if k == hour else room[k] for k in range(len(room))])


def first_appointment(room, wishes):
    """Return the first one of the appointments that serve the most trucks, None behind all hours."""
    found = ()
    left = room
    for truck in range(len(wishes)):
        hour = first_hour(left, wishes[truck:])
        left = less_room(left, hour)
        found = found + (hour,)
    return found
