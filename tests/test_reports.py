import itertools
import random
import unittest

from odd_values import DEEP, ODD, with_changes

from tidewarden.reports import can_be, check_place, is_map, is_walk, least_wrong, place_paper, wrong_reports

LINE = (4, ((0, 1), (1, 2), (2, 3)))
ALL = tuple(itertools.combinations(range(8), 2))
REPORTS = ((0, 0, 0), (1, 0, 2), (2, 0, 3), (2, 0, 3), (1, 1, 1))


def some_map(rng, most=4):
    places = rng.randint(1, most)
    pairs = list(itertools.combinations(range(places), 2))
    return (places, tuple(sorted(rng.sample(pairs, rng.randint(0, len(pairs))))))


def some_reports(rng, plan, ticks, boxes, most=6):
    many = rng.randint(0, most)
    return tuple((rng.randrange(ticks), rng.randrange(boxes), rng.randrange(plan[0])) for _ in range(many))


def some_cases(seed, many, ticks=4, boxes=2, places=4):
    rng = random.Random(seed)
    for _ in range(many):
        plan, ticks_now, boxes_now = some_map(rng, places), rng.randint(1, ticks), rng.randint(1, boxes)
        yield rng, plan, ticks_now, boxes_now, some_reports(rng, plan, ticks_now, boxes_now)


def joined(plan, one, two):
    return one == two or (one, two) in plan[1] or (two, one) in plan[1]


def plain_walks(plan, ticks):
    return [
        walk for walk in itertools.product(range(plan[0]), repeat=ticks)
        if all(joined(plan, one, two) for one, two in zip(walk, walk[1:]))]


def plain_wrong(reports, walks):
    many = 0
    for tick, box, place in reports:
        if walks[box][tick] != place:
            many += 1
    return many


def own_reports(reports, box):
    return tuple((tick, 0, place) for tick, one, place in reports if one == box)


def plain_least(plan, ticks, reports, box):
    walks = plain_walks(plan, ticks)
    own = own_reports(reports, box)
    return [min(plain_wrong(own, (walk,)) for walk in walks if walk[-1] == place) for place in range(plan[0])]


def is_exact(value):
    return all(map(is_exact, value)) if type(value) is tuple else type(value) in (int, str)


def right_place(plan, ticks, boxes, reports, most, box, place, value):
    """Tell whether a value is right by the words of point 19.4."""
    if type(value) is not tuple or len(value) != 2 or not is_exact(value) or type(value[1]) is not tuple:
        return False
    if len(value[1]) != boxes or value[0] not in ("walks", "tables"):
        return False
    if value[0] == "walks":
        right = all(walk in plain_walks(plan, ticks) for walk in value[1])
        return right and plain_wrong(reports, value[1]) <= most and value[1][box][-1] == place
    for k, table in enumerate(value[1]):
        if type(table) is not tuple or len(table) != ticks:
            return False
        if not all(type(row) is tuple and len(row) == plan[0] and all(type(n) is int for n in row) for row in table):
            return False
        for tick, at in itertools.product(range(ticks), range(plan[0])):
            wrong = len([report for report in reports if report[:2] == (tick, k) and report[2] != at])
            if tick == 0 and table[0][at] > wrong:
                return False
            for before in range(plan[0]):
                if tick > 0 and joined(plan, before, at) and table[tick][at] > table[tick - 1][before] + wrong:
                    return False
    least = [table[-1][place] if k == box else min(table[-1]) for k, table in enumerate(value[1])]
    return sum(least) > most


class MapTest(unittest.TestCase):
    def test_bounds(self):
        for value, right in [
                ((0, ()), False), ((1, ()), True), ((8, ()), True), ((9, ()), False), ((8, ALL), True), ((7, ALL), False),
                ((-1, ()), False), (LINE, True), ((3, ((0, 1), (1, 2), (2, 3))), False), ((4, ((0, 3),)), True),
                ((4, ((0, 4),)), False), ((4, ((-1, 1),)), False), ((4, ((3, 0),)), False), ((4, ((1, 1),)), False),
                ((4, ((0, 1), (0, 1))), False), ((4, ((0, 2), (0, 1))), False), ((4, ((1, 2), (0, 1))), False),
                ((4, ((0, 1), (1, 0))), False), ((4, ((0, 1, 2),)), False), ((4, ((0,),)), False), ((4, (0, 1)), False),
                ((1, ((0, 0),)), False), ((2, ((0, 1),)), True), ((2, ((1, 0),)), False)]:
            self.assertIs(is_map(value), right, value)

    def test_all_small_maps(self):
        for places in range(5):
            for many in range(4):
                for lanes in itertools.product(itertools.product(range(-1, 4), repeat=2), repeat=many):
                    right = places > 0 and all(0 <= one < two < places for one, two in lanes)
                    right = right and list(lanes) == sorted(set(lanes))
                    self.assertIs(is_map((places, lanes)), right)

    def test_forms(self):
        for value in [list(LINE), (4, list(LINE[1])), (4, ([0, 1],)), (4.0, ()), (True, ()), ("4", ()), (4, None), (4,), LINE + ((),)]:
            self.assertIs(is_map(value), False)
        for lane in [(False, 1), (0, True), (0, 1.0), (0, "1"), (0, None), "01", (0, (1,))]:
            self.assertIs(is_map((4, (lane,))), False)
        for value in ODD + DEEP:
            self.assertIs(is_map(value), False)
            self.assertIs(is_map((4, value)), type(value) is tuple and len(value) == 0)
            self.assertIs(is_map((4, (value,))), False)
            self.assertIs(is_map((value, ())), False)
            self.assertIs(is_map((4, ((0, value),))), False)
        for value in with_changes(LINE):
            ok = type(value) is tuple and is_exact(value) and len(value) == 2 and value[0] == 4
            ok = ok and value[1] in [()] + [LINE[1][:k] + LINE[1][k + 1:] for k in range(3)]
            self.assertIs(is_map(value), ok, value)


class WalkTest(unittest.TestCase):
    def test_all_small_walks(self):
        for _, plan, ticks, *_ in some_cases(1, 40, 4):
            right = plain_walks(plan, ticks)
            for many in range(ticks + 2):
                for walk in itertools.product(range(-1, plan[0] + 1), repeat=many):
                    self.assertIs(is_walk(plan, ticks, walk), walk in right)

    def test_told_walks(self):
        for walk, right in [
                ((0, 1, 2), True), ((0, 0, 0), True), ((3, 2, 2), True), ((0, 2, 2), False), ((0, 1, 3), False), ((0, 1), False),
                ((0, 1, 2, 3), False), ((3, 3, 4), False), ((-1, 0, 1), False), ((), False), ((1, 0, 1), True)]:
            self.assertIs(is_walk(LINE, 3, walk), right)
            self.assertIs(is_walk(LINE, 3, list(walk)), False)
        self.assertIs(is_walk((1, ()), 20, (0,) * 20), True)
        self.assertIs(is_walk((1, ()), 20, (0,) * 21), False)
        for walk in [(True, 0, 0), (0, False, 0), (0, 0, 1.0), ("0", 0, 0), (0, 0, None), (0, 0, (0,))]:
            self.assertIs(is_walk(LINE, 3, walk), False)
        for value in ODD + DEEP:
            self.assertIs(is_walk(LINE, 3, value), False)
            self.assertIs(is_walk(LINE, 1, (value,)), False)
            self.assertIs(is_walk(LINE, 2, (value, value)), False)


class WrongReportsTest(unittest.TestCase):
    def test_told_reports(self):
        walks = ((0, 1, 2), (3, 3, 3))
        for reports, wrong in [
                ((), 0), (((0, 0, 0),), 0), (((0, 0, 1),), 1), (((0, 0, 1), (0, 0, 1)), 2), (((0, 0, 0), (0, 0, 0)), 0),
                (((2, 1, 3), (1, 0, 1), (2, 0, 1), (0, 1, 0), (2, 0, 1)), 3), (((0, 1, 3), (0, 0, 3)), 1)]:
            for order in itertools.permutations(reports):
                self.assertEqual(wrong_reports(order, walks), wrong)

    def test_some_cases(self):
        for rng, plan, ticks, boxes, reports in some_cases(2, 200):
            walks = tuple(rng.choice(plain_walks(plan, ticks)) for _ in range(boxes))
            self.assertEqual(wrong_reports(reports, walks), plain_wrong(reports, walks))


class CanBeTest(unittest.TestCase):
    def test_told_places(self):
        self.assertEqual(least_wrong(LINE, 3, REPORTS, 0), [3, 3, 3, 1])
        self.assertEqual(least_wrong(LINE, 3, REPORTS, 1), [0, 0, 0, 1])
        self.assertEqual(least_wrong(LINE, 3, (), 1), [0, 0, 0, 0])
        self.assertEqual(can_be(LINE, 3, 2, REPORTS, 0), [[], []])
        self.assertEqual(can_be(LINE, 3, 2, REPORTS, 1), [[3], [0, 1, 2]])
        self.assertEqual(can_be(LINE, 3, 2, REPORTS, 2), [[3], [0, 1, 2, 3]])
        self.assertEqual(can_be(LINE, 3, 2, REPORTS, 3), [[0, 1, 2, 3], [0, 1, 2, 3]])
        self.assertEqual(can_be(LINE, 3, 2, REPORTS, 30), [[0, 1, 2, 3], [0, 1, 2, 3]])
        self.assertEqual(can_be(LINE, 3, 1, (), 0), [[0, 1, 2, 3]])
        # Nothing leads from one place to the other, but the box may have been wherever it is.
        self.assertEqual(least_wrong((2, ()), 2, ((0, 0, 0), (0, 0, 0), (1, 0, 1)), 0), [1, 2])

    def test_some_cases(self):
        seen = set()
        for _, plan, ticks, boxes, reports in some_cases(3, 150, 3, 3, 3):
            walks = plain_walks(plan, ticks)
            numbers = [(plain_wrong(reports, chosen), chosen) for chosen in itertools.product(walks, repeat=boxes)]
            for box in range(boxes):
                self.assertEqual(least_wrong(plan, ticks, reports, box), plain_least(plan, ticks, reports, box))
            least = min(numbers)[0]
            for most in {0, max(0, least - 1), least, least + 1, 30}:
                right = [sorted({chosen[box][-1] for many, chosen in numbers if many <= most}) for box in range(boxes)]
                self.assertEqual(can_be(plan, ticks, boxes, reports, most), right)
                seen.add((most < least, most == least))
        self.assertEqual(len(seen), 3)

    def test_four_boxes(self):
        for rng, plan, ticks, _, _ in some_cases(4, 40, 2, 1, 2):
            reports = some_reports(rng, plan, ticks, 4, 9)
            walks = list(itertools.product(plain_walks(plan, ticks), repeat=4))
            for most in range(5):
                right = [
                    sorted({chosen[box][-1] for chosen in walks if plain_wrong(reports, chosen) <= most}) for box in range(4)]
                self.assertEqual(can_be(plan, ticks, 4, reports, most), right)


class PlacePaperTest(unittest.TestCase):
    def test_some_cases(self):
        seen = {"walks": 0, "tables": 0}
        for rng, plan, ticks, boxes, reports in some_cases(5, 150, 4, 4):
            for most in range(5):
                places = can_be(plan, ticks, boxes, reports, most)
                for box, place in itertools.product(range(boxes), range(plan[0])):
                    paper = place_paper(plan, ticks, boxes, reports, most, box, place)
                    self.assertEqual(paper[0], "walks" if place in places[box] else "tables")
                    self.assertIs(right_place(plan, ticks, boxes, reports, most, box, place, paper), True)
                    self.assertIs(check_place(plan, ticks, boxes, reports, most, box, place, paper), True)
                    other = ("tables" if paper[0] == "walks" else "walks", paper[1])
                    self.assertIs(check_place(plan, ticks, boxes, reports, most, box, place, other), False)
                    seen[paper[0]] += 1
        self.assertGreater(min(seen.values()), 200)

    def test_all_walks(self):
        for _, plan, ticks, boxes, reports in some_cases(6, 40, 3, 2, 3):
            for walks in itertools.product(plain_walks(plan, ticks), repeat=boxes):
                for most in range(3):
                    for box, place in itertools.product(range(boxes), range(plan[0])):
                        right = plain_wrong(reports, walks) <= most and walks[box][-1] == place
                        value = ("walks", walks)
                        self.assertIs(check_place(plan, ticks, boxes, reports, most, box, place, value), right)

    def test_tables_with_lesser_integers(self):
        taken = 0
        for rng, plan, ticks, boxes, reports in some_cases(7, 200):
            paper = place_paper(plan, ticks, boxes, reports, 0, 0, 0)
            if paper[0] == "walks":
                continue
            for _ in range(10):
                less = rng.choice((1, 2, 9))
                # Less from one tick on, so that a table may be right though it tells less than it could.
                tables = tuple(tuple(
                    tuple(n - less * (rng.random() < 0.2) for n in row) for row in table) for table in paper[1])
                value = ("tables", tables)
                right = right_place(plan, ticks, boxes, reports, 0, 0, 0, value)
                taken += right and value != paper
                self.assertIs(check_place(plan, ticks, boxes, reports, 0, 0, 0, value), right)
        self.assertGreater(taken, 20)

    def test_each_integer_too_great(self):
        refused = 0
        for rng, plan, ticks, boxes, reports in some_cases(8, 100):
            paper = place_paper(plan, ticks, boxes, reports, 0, boxes - 1, 0)
            if paper[0] == "walks":
                continue
            for box, tick, place in itertools.product(range(boxes), range(ticks), range(plan[0])):
                table = [list(row) for row in paper[1][box]]
                table[tick][place] += 1
                told = paper[1][:box] + (tuple(map(tuple, table)),) + paper[1][box + 1:]
                refused += 1
                self.assertIs(
                    check_place(plan, ticks, boxes, reports, 0, boxes - 1, 0, ("tables", told)), False)
        self.assertGreater(refused, 100)

    def test_sums(self):
        paper = place_paper(LINE, 3, 2, REPORTS, 1, 0, 0)
        self.assertEqual(paper[0], "tables")
        for most, box, place, right in [
                (2, 0, 0, True), (3, 0, 0, False), (2, 0, 1, True), (3, 0, 1, False), (0, 0, 3, True), (1, 0, 3, False),
                (0, 1, 0, True), (1, 1, 0, False), (1, 1, 3, True), (2, 1, 3, False)]:
            self.assertIs(check_place(LINE, 3, 2, REPORTS, most, box, place, paper), right)

    def test_refused_papers(self):
        arguments = (LINE, 3, 2, REPORTS, 1, 0, 3)
        paper = place_paper(*arguments)
        self.assertEqual(paper[0], "walks")
        self.assertEqual(paper[1][0], (0 if paper[1][0][0] == 0 else 1, paper[1][0][1], 3))
        walks = ((1, 2, 3), (1, 1, 1))
        self.assertIs(check_place(*arguments, ("walks", walks)), True)
        for other in [
                walks[:1], walks + walks[:1], walks[::-1], (), list(walks), (list(walks[0]), walks[1]), ((1, 2, 2), walks[1]),
                ((0, 2, 3), walks[1]), ((1, 2, 3, 3), walks[1]), ((2, 3), walks[1]), ((1, 2, 4), walks[1]), (walks,),
                ((0, 1, 3), walks[1]), ((1, 2, 3), (1, 3, 3)), ((1, 2, 3), (1, 2, 2)), ((1, 2, 3), (1, 1, 4))]:
            self.assertIs(check_place(*arguments, ("walks", other)), False, other)
        for value in [("walks",), ("walks", walks, ()), ["walks", walks], ("Walks", walks), (None, walks), walks]:
            self.assertIs(check_place(*arguments, value), False)
        arguments = (LINE, 3, 2, REPORTS, 1, 0, 0)
        tables = place_paper(*arguments)[1]
        self.assertIs(check_place(*arguments, ("tables", tables)), True)
        for other in [
                tables[:1], tables + tables[:1], tables[::-1], (), list(tables), (list(tables[0]), tables[1]),
                (tables[0][:2], tables[1]), (tables[0] + tables[0][-1:], tables[1]), (tables[0][1:], tables[1]),
                (tables[0][:2] + (tables[0][2][:3],), tables[1]), (tables[0][:2] + (tables[0][2] + (3,),), tables[1])]:
            self.assertIs(check_place(*arguments, ("tables", other)), False, other)

    def test_changes_by_the_words(self):
        taken = refused = 0
        for rng, plan, ticks, boxes, reports in some_cases(9, 60, 3, 2, 3):
            arguments = (plan, ticks, boxes, reports, rng.randrange(3), rng.randrange(boxes), rng.randrange(plan[0]))
            for value in with_changes(place_paper(*arguments)):
                right = right_place(*arguments, value)
                self.assertIs(check_place(*arguments, value), right, value)
                taken, refused = taken + right, refused + (not right)
        self.assertGreater(refused, 3000)
        self.assertGreater(taken, 20)

    def test_any_value(self):
        tables = place_paper(LINE, 3, 2, REPORTS, 1, 0, 0)[1]
        for value in ODD + DEEP:
            for place in (0, 3):
                self.assertIs(check_place(LINE, 3, 2, REPORTS, 1, 0, place, value), False)
                for word in ("walks", "tables"):
                    for part in [
                            value, (value,), (value, value), ((1, 2, 3), value), (((value, 2, 3)), (1, 1, 1)), (tables[0], value),
                            ((value,) * 3, tables[1]), (tables[0][:2] + ((value,) * 4,), tables[1]),
                            (tables[0][:2] + (value,), tables[1])]:
                        self.assertIs(check_place(LINE, 3, 2, REPORTS, 1, 0, place, (word, part)), False)

    def test_large_calls_end_soon(self):
        rng = random.Random(10)
        plan = (8, ALL[::2])
        for _ in range(10):
            reports = tuple((rng.randrange(20), rng.randrange(4), rng.randrange(8)) for _ in range(30))
            for most in (0, 10, 30):
                for box, place in [(0, 0), (3, 7)]:
                    paper = place_paper(plan, 20, 4, reports, most, box, place)
                    self.assertIs(check_place(plan, 20, 4, reports, most, box, place, paper), True)
                    self.assertEqual(paper[0] == "walks", place in can_be(plan, 20, 4, reports, most)[box])


if __name__ == "__main__":
    unittest.main()
