import random
import unittest

from tidewarden.quays import depth_along, free_places, mooring_faults, next_mooring, quay_length
from tidewarden.spells import is_spells, spells_of

QUAY = ((10, 8), (5, 12), (7, 6))


def plain_depths(quay):
    """The depth of each unit of length."""
    return [depth for length, depth in quay for _ in range(length)]


def plain_clash(one, two, gap):
    ticks = set(range(one[2], one[3])) & set(range(two[2], two[3]))
    near = one[0] < two[0] + two[1] + gap and two[0] < one[0] + one[1] + gap
    return bool(ticks) and near


def plain_faults(quay, moorings, gap):
    depths = plain_depths(quay)
    found = []
    for k, (at, length, begin, end, draught) in enumerate(moorings):
        if at + length > len(depths):
            found.append(("outside", k))
        elif draught > min(depths[at:at + length]):
            found.append(("shallow", k))
        found += [("clash", j, k) for j in range(k) if plain_clash(moorings[j], moorings[k], gap)]
    return found


def is_free(quay, moorings, mooring, gap):
    last = len(moorings)
    return not [fault for fault in plain_faults(quay, moorings + [mooring], gap) if fault[-1] == last]


def some_quays(seed, many):
    rng = random.Random(seed)
    for _ in range(many):
        quay = tuple((rng.randint(1, 6), rng.randint(0, 6)) for _ in range(rng.randint(1, 4)))
        moorings = []
        for _ in range(rng.randint(0, 6)):
            begin = rng.randint(0, 12)
            end = begin + rng.randint(1, 6)
            moorings.append((rng.randint(0, 14), rng.randint(1, 6), begin, end, rng.randint(0, 7)))
        yield rng, quay, moorings, rng.randint(0, 3)


class QuayTest(unittest.TestCase):
    def test_length(self):
        self.assertEqual(quay_length(QUAY), 22)
        self.assertEqual(quay_length(((400, 0),)), 400)

    def test_depth_along(self):
        self.assertEqual(depth_along(QUAY, 2, 5), 8)
        self.assertEqual(depth_along(QUAY, 0, 10), 8)
        self.assertEqual(depth_along(QUAY, 10, 5), 12)
        self.assertEqual(depth_along(QUAY, 9, 6), 8)
        self.assertEqual(depth_along(QUAY, 10, 6), 6)
        self.assertEqual(depth_along(QUAY, 15, 7), 6)
        self.assertEqual(depth_along(QUAY, 0, 22), 6)
        self.assertEqual(depth_along(QUAY, 14, 1), 12)

    def test_depth_against_each_place(self):
        depths = plain_depths(QUAY)
        for at in range(22):
            for length in range(1, 23 - at):
                self.assertEqual(depth_along(QUAY, at, length), min(depths[at:at + length]))


class FaultsTest(unittest.TestCase):
    def test_outside_and_shallow(self):
        self.assertEqual(mooring_faults(QUAY, [(15, 7, 0, 1, 6)]), [])
        self.assertEqual(mooring_faults(QUAY, [(15, 8, 0, 1, 6)]), [("outside", 0)])
        self.assertEqual(mooring_faults(QUAY, [(15, 8, 0, 1, 99)]), [("outside", 0)])
        self.assertEqual(mooring_faults(QUAY, [(15, 7, 0, 1, 7)]), [("shallow", 0)])
        self.assertEqual(mooring_faults(QUAY, [(22, 1, 0, 1, 0)]), [("outside", 0)])
        self.assertEqual(mooring_faults(QUAY, [(-1, 3, 0, 1, 0)]), [("outside", 0)])

    def test_distances(self):
        def faults(at, **gap):
            return mooring_faults(QUAY, [(0, 4, 0, 5, 1), (at, 2, 4, 6, 1)], **gap)
        clash = [("clash", 0, 1)]
        self.assertEqual(faults(4), [])
        self.assertEqual(faults(3), clash)
        self.assertEqual(faults(4, gap=0), [])
        self.assertEqual(faults(4, gap=1), clash)
        self.assertEqual(faults(6, gap=2), [])
        self.assertEqual(faults(6, gap=3), clash)
        self.assertEqual(mooring_faults(QUAY, [(6, 2, 4, 6, 1), (0, 4, 0, 5, 1)], gap=3), clash)
        self.assertEqual(mooring_faults(QUAY, [(6, 2, 4, 6, 1), (0, 4, 0, 5, 1)], gap=2), [])

    def test_spells_that_touch(self):
        self.assertEqual(mooring_faults(QUAY, [(0, 4, 0, 5, 1), (0, 4, 5, 6, 1)], gap=9), [])
        self.assertEqual(mooring_faults(QUAY, [(0, 4, 5, 6, 1), (0, 4, 0, 5, 1)], gap=9), [])
        self.assertEqual(mooring_faults(QUAY, [(0, 4, 0, 6, 1), (0, 4, 5, 6, 1)]), [("clash", 0, 1)])

    def test_order_and_unchanged(self):
        moorings = [(0, 9, 0, 9, 9), (20, 3, 0, 9, 50), (0, 30, 0, 9, 1), (14, 8, 8, 20, 7)]
        handed = list(moorings)
        found = mooring_faults(QUAY, handed)
        self.assertEqual(handed, moorings)
        self.assertEqual(found, [
            ("shallow", 0), ("outside", 1), ("outside", 2), ("clash", 0, 2), ("clash", 1, 2),
            ("shallow", 3), ("clash", 1, 3), ("clash", 2, 3)])
        self.assertIs(type(found), list)

    def test_against_the_words(self):
        for rng, quay, moorings, gap in some_quays(1, 300):
            self.assertEqual(mooring_faults(quay, moorings, gap=gap), plain_faults(quay, moorings, gap))
            self.assertEqual(mooring_faults(quay, moorings), plain_faults(quay, moorings, 0))

    def test_gap_is_by_keyword_only(self):
        with self.assertRaises(TypeError):
            mooring_faults(QUAY, [], 1)
        with self.assertRaises(TypeError):
            free_places(QUAY, [], 1, 1, 0, 1, 1)
        with self.assertRaises(TypeError):
            next_mooring(QUAY, [], 1, 1, 0, 1, 1)


class FreePlacesTest(unittest.TestCase):
    def test_examples(self):
        self.assertEqual(free_places(QUAY, [], 4, 5, 0, 3), ((0, 19),))
        self.assertEqual(free_places(QUAY, [], 4, 8, 0, 3), ((0, 12),))
        self.assertEqual(free_places(QUAY, [], 4, 9, 0, 3), ((10, 12),))
        self.assertEqual(free_places(QUAY, [], 22, 6, 0, 3), ((0, 1),))
        self.assertEqual(free_places(QUAY, [], 23, 6, 0, 3), ())
        self.assertEqual(free_places(QUAY, [], 500, 0, 0, 3), ())
        self.assertEqual(free_places(QUAY, [], 1, 13, 0, 3), ())
        self.assertEqual(free_places(QUAY, [(6, 4, 2, 4, 1)], 4, 5, 0, 3), ((0, 3), (10, 19)))
        self.assertEqual(free_places(QUAY, [(6, 4, 2, 4, 1)], 4, 5, 0, 3, gap=2), ((0, 1), (12, 19)))
        self.assertEqual(free_places(QUAY, [(6, 4, 2, 4, 1)], 4, 5, 0, 2), ((0, 19),))
        self.assertEqual(free_places(QUAY, [(6, 4, 2, 4, 1)], 4, 5, 4, 9), ((0, 19),))

    def test_against_each_place(self):
        for rng, quay, moorings, gap in some_quays(2, 400):
            handed = list(moorings)
            length, draught = rng.randint(1, 8), rng.randint(0, 6)
            begin = rng.randint(0, 15)
            end = begin + rng.randint(1, 5)
            places = [
                at for at in range(30) if is_free(quay, moorings, (at, length, begin, end, draught), gap)]
            found = free_places(quay, handed, length, draught, begin, end, gap=gap)
            self.assertEqual(found, spells_of(places))
            self.assertIs(is_spells(found), True)
            self.assertEqual(handed, moorings)
            places = [at for at in range(30) if is_free(quay, moorings, (at, length, begin, end, draught), 0)]
            self.assertEqual(free_places(quay, handed, length, draught, begin, end), spells_of(places))


class NextMooringTest(unittest.TestCase):
    def test_examples(self):
        self.assertEqual(next_mooring(QUAY, [], 4, 9, 3, 2), (3, 10))
        self.assertIsNone(next_mooring(QUAY, [], 6, 9, 3, 2))
        self.assertIsNone(next_mooring(QUAY, [(0, 1, 0, 9, 1)], 23, 0, 3, 2))
        whole = [(0, 22, 4, 9, 1), (0, 22, 20, 30, 1)]
        self.assertEqual(next_mooring(QUAY, whole, 3, 1, 0, 4), (0, 0))
        self.assertEqual(next_mooring(QUAY, whole, 3, 1, 0, 5), (9, 0))
        self.assertEqual(next_mooring(QUAY, whole, 3, 1, 0, 11), (9, 0))
        self.assertEqual(next_mooring(QUAY, whole, 3, 1, 0, 12), (30, 0))
        self.assertEqual(next_mooring(QUAY, whole[::-1], 3, 1, 0, 12), (30, 0))
        self.assertEqual(next_mooring(QUAY, whole, 3, 1, 10, 11), (30, 0))
        self.assertEqual(next_mooring(QUAY, whole, 3, 1, 77, 11), (77, 0))

    def test_gap(self):
        moorings = [(5, 4, 0, 9, 1)]
        self.assertEqual(next_mooring(QUAY, moorings, 5, 1, 0, 4), (0, 0))
        self.assertEqual(next_mooring(QUAY, moorings, 6, 1, 0, 4), (0, 9))
        self.assertEqual(next_mooring(QUAY, moorings, 5, 1, 0, 4, gap=0), (0, 0))
        self.assertEqual(next_mooring(QUAY, moorings, 5, 1, 0, 4, gap=1), (0, 10))
        self.assertEqual(next_mooring(QUAY, moorings, 5, 1, 0, 4, gap=20), (9, 0))

    def test_against_each_tick_and_place(self):
        for rng, quay, moorings, gap in some_quays(3, 300):
            handed = list(moorings)
            length, draught = rng.randint(1, 8), rng.randint(0, 6)
            start, lasting = rng.randint(0, 14), rng.randint(1, 6)
            wanted = None
            for begin in range(start, 40):
                spell = (begin, begin + lasting)
                places = [at for at in range(30) if is_free(quay, moorings, (at, length, *spell, draught), gap)]
                if places:
                    wanted = (begin, places[0])
                    break
            found = next_mooring(quay, handed, length, draught, start, lasting, gap=gap)
            self.assertEqual(found, wanted)
            self.assertEqual(handed, moorings)
            self.assertEqual(found is None, not free_places(quay, [], length, draught, 0, 1))

    def test_great_calls_end_soon(self):
        quay = ((400, 300),) * 8
        moorings = [(k * 250, 400, k * 10 ** 6, (k + 3) * 10 ** 6, 10) for k in range(12)]
        self.assertEqual(free_places(quay, moorings, 400, 300, 0, 1, gap=10), ((410, 2801),))
        self.assertEqual(next_mooring(quay, moorings, 3200, 10, 0, 5), (14 * 10 ** 6, 0))


if __name__ == "__main__":
    unittest.main()
