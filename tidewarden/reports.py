"""Where boxes can be by doubtful reports, with papers of walks or of tables."""

from tidewarden.kinds import are_integers, ascends, is_between, is_marked, is_pair, is_tuple

MOST_PLACES = 8


def is_map(value):
    """Tell whether any value is a map of places and lanes."""
    if not is_tuple(value, 2) or not is_between(value[0], 1, MOST_PLACES) or type(value[1]) is not tuple:
        return False
    places, lanes = value
    if not all([is_pair(lane) for lane in lanes]) or not ascends(lanes):
        return False
    return all([0 <= one < two < places for one, two in lanes])


def steps_to(plan, place):
    """Return the ascending list of the places from which a box can come to a place in a tick."""
    return [other for other in range(plan[0]) if is_step(plan, other, place)]


def is_step(plan, one, two):
    """Tell whether a box can be at one place and at another one a tick later."""
    return one == two or (min(one, two), max(one, two)) in plan[1]


def is_walk(plan, ticks, value):
    """Tell whether any value is a walk on a map for a number of ticks."""
    if not are_integers(value) or len(value) != ticks or not all([0 <= place < plan[0] for place in value]):
        return False
    return all([is_step(plan, value[tick], value[tick + 1]) for tick in range(ticks - 1)])


def wrong_reports(reports, walks):
    """Return the number of the reports that are wrong for walks of all boxes."""
    return len([place for tick, box, place in reports if walks[box][tick] != place])


def denials(plan, reports, box, tick):
    """Return the list, for each place, of the number of the reports that tell another place at a tick."""
    told = [place for at, which, place in reports if at == tick and which == box]
    return [len(told) - told.count(place) for place in range(plan[0])]


def least_table(plan, ticks, reports, box):
    """Return the tuple of tuples, for each tick and place, of the least number of wrong reports up to there."""
    rows = [tuple(denials(plan, reports, box, 0))]
    for tick in range(1, ticks):
        wrong = denials(plan, reports, box, tick)
        before = [min([rows[-1][other] for other in steps_to(plan, place)]) for place in range(plan[0])]
        rows.append(tuple([before[place] + wrong[place] for place in range(plan[0])]))
    return tuple(rows)


def least_wrong(plan, ticks, reports, box):
    """Return the list, for each place, of the least number of wrong reports of a walk that ends there."""
    return list(least_table(plan, ticks, reports, box)[-1])


def least_sum(lasts, box, place):
    """Return the least sum of wrong reports by the last rows of all boxes if one of them ends at a place."""
    return sum([lasts[k][place] if k == box else min(lasts[k]) for k in range(len(lasts))])


def can_be(plan, ticks, boxes, reports, most):
    """Return the list, for each box, of the ascending list of the places where it can be."""
    lasts = [least_wrong(plan, ticks, reports, box) for box in range(boxes)]
    return [[place for place in range(plan[0]) if least_sum(lasts, box, place) <= most] for box in range(boxes)]


def walk_to(plan, table, place):
    """Return a walk that ends at a place with the number of wrong reports that a table of least ones tells."""
    walk = [place]
    for row in table[-2::-1]:
        others = steps_to(plan, walk[-1])
        numbers = [row[other] for other in others]
        walk.append(others[numbers.index(min(numbers))])
    return tuple(walk[::-1])


def place_paper(plan, ticks, boxes, reports, most, box, place):
    """Return a paper with walks by which a box can be at a place, or with tables that it cannot."""
    tables = tuple([least_table(plan, ticks, reports, k) for k in range(boxes)])
    lasts = [table[-1] for table in tables]
    if least_sum(lasts, box, place) > most:
        return ("tables", tables)
    ends = [place if k == box else lasts[k].index(min(lasts[k])) for k in range(boxes)]
    return ("walks", tuple([walk_to(plan, table, end) for table, end in zip(tables, ends)]))


def are_walks(plan, ticks, boxes, value):
    """Tell whether any value is a tuple of one walk for each box."""
    return is_tuple(value, boxes) and all([is_walk(plan, ticks, walk) for walk in value])


def is_table(plan, ticks, reports, box, value):
    """Tell whether any value is a table of which no integer is too great for a box."""
    if not is_tuple(value, ticks):
        return False
    if not all([are_integers(row) and len(row) == plan[0] for row in value]):
        return False
    for tick, row in enumerate(value):
        wrong = denials(plan, reports, box, tick)
        for place in range(plan[0]):
            # Nothing comes before the first row, so its integers are held against the reports alone.
            before = [value[tick - 1][other] for other in steps_to(plan, place)] if tick > 0 else [0]
            if row[place] > min(before) + wrong[place]:
                return False
    return True


def are_tables(plan, ticks, reports, boxes, value):
    """Tell whether any value is a tuple of one table for each box."""
    if not is_tuple(value, boxes):
        return False
    return all([is_table(plan, ticks, reports, box, value[box]) for box in range(boxes)])


def check_place(plan, ticks, boxes, reports, most, box, place, value):
    """Tell whether any value is a right place paper for a box and a place."""
    if is_marked(value, "walks", 2):
        walks = value[1]
        if not are_walks(plan, ticks, boxes, walks):
            return False
        return walks[box][-1] == place and wrong_reports(reports, walks) <= most
    if not is_marked(value, "tables", 2) or not are_tables(plan, ticks, reports, boxes, value[1]):
        return False
    return least_sum([table[-1] for table in value[1]], box, place) > most
