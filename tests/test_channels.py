import itertools
import random
import unittest

from tidewarden.channels import channel_spells, next_passage, next_tidal, passage_faults
from tidewarden.tides import next_open, water

TIDE = ((0, 10), (6, 0), (12, 10))


def plain_places(channel, passage):
    """The section of each tick of a passage, by going along."""
    enter, way = passage
    order = range(len(channel)) if way == "in" else reversed(range(len(channel)))
    ticks = {}
    for section in order:
        for _ in range(channel[section]):
            ticks[enter + len(ticks)] = section
    return ticks


def plain_fault(channel, headway, one, two):
    if one[1] == two[1]:
        return "close" if abs(one[0] - two[0]) < headway else None
    here, there = plain_places(channel, one), plain_places(channel, two)
    return "meeting" if any(there.get(tick) == section for tick, section in here.items()) else None


def is_free(channel, headway, passages, passage):
    return all(plain_fault(channel, headway, passage, other) is None for other in passages)


def some_channels(seed, many):
    rng = random.Random(seed)
    for _ in range(many):
        channel = tuple(rng.randint(1, 5) for _ in range(rng.randint(1, 5)))
        passages = [(rng.randint(0, 40), rng.choice(("in", "out"))) for _ in range(rng.randint(0, 7))]
        yield rng, channel, rng.randint(1, 6), passages


class ChannelSpellsTest(unittest.TestCase):
    def test_both_ways(self):
        self.assertEqual(channel_spells((2, 3, 1), (5, "in")), [(5, 7), (7, 10), (10, 11)])
        self.assertEqual(channel_spells((2, 3, 1), (5, "out")), [(9, 11), (6, 9), (5, 6)])
        self.assertEqual(channel_spells((4,), (0, "in")), [(0, 4)])
        self.assertEqual(channel_spells((4,), (0, "out")), [(0, 4)])

    def test_kinds(self):
        found = channel_spells((2, 3), (1, "out"))
        self.assertIs(type(found), list)
        self.assertTrue(all(type(pair) is tuple for pair in found))
        found.append(None)
        self.assertEqual(channel_spells((2, 3), (1, "out")), [(4, 6), (1, 4)])

    def test_against_the_ticks(self):
        for rng, channel, _, passages in some_channels(1, 100):
            for passage in passages:
                spells = channel_spells(channel, passage)
                ticks = {t: k for k, (begin, end) in enumerate(spells) for t in range(begin, end)}
                self.assertEqual(ticks, plain_places(channel, passage))


class PassageFaultsTest(unittest.TestCase):
    def test_none(self):
        self.assertEqual(passage_faults((2, 3), 2, []), [])
        self.assertEqual(passage_faults((2, 3), 2, [(4, "in")]), [])

    def test_too_close(self):
        self.assertEqual(passage_faults((2,), 3, [(4, "in"), (6, "in")]), [(0, 1, "close")])
        self.assertEqual(passage_faults((2,), 3, [(6, "out"), (4, "out")]), [(0, 1, "close")])
        self.assertEqual(passage_faults((2,), 3, [(4, "in"), (7, "in")]), [])
        self.assertEqual(passage_faults((2,), 1, [(4, "in"), (4, "in")]), [(0, 1, "close")])
        self.assertEqual(passage_faults((20,), 1, [(4, "in"), (5, "in")]), [])

    def test_meetings(self):
        self.assertEqual(passage_faults((4,), 1, [(0, "in"), (3, "out")]), [(0, 1, "meeting")])
        self.assertEqual(passage_faults((4,), 1, [(0, "in"), (4, "out")]), [])
        self.assertEqual(passage_faults((4,), 9, [(4, "out"), (0, "in")]), [])
        # They pass each other where the sections meet.
        self.assertEqual(passage_faults((4, 4), 1, [(0, "in"), (0, "out")]), [])
        self.assertEqual(passage_faults((4, 4), 1, [(0, "in"), (1, "out")]), [(0, 1, "meeting")])
        self.assertEqual(passage_faults((4, 3), 1, [(2, "in"), (2, "out")]), [(0, 1, "meeting")])

    def test_ascending_and_unchanged(self):
        passages = [(9, "in"), (2, "out"), (8, "in"), (3, "out"), (9, "in")]
        handed = list(passages)
        found = passage_faults((3, 3), 2, handed)
        self.assertEqual(handed, passages)
        self.assertEqual(found, sorted(found))
        self.assertEqual(
            found, [(0, 2, "close"), (0, 4, "close"), (1, 3, "close"), (2, 3, "meeting"), (2, 4, "close")])

    def test_against_the_ticks(self):
        for rng, channel, headway, passages in some_channels(2, 300):
            wanted = []
            for j, k in itertools.combinations(range(len(passages)), 2):
                word = plain_fault(channel, headway, passages[j], passages[k])
                if word:
                    wanted.append((j, k, word))
            self.assertEqual(passage_faults(channel, headway, passages), wanted)


class NextPassageTest(unittest.TestCase):
    def test_no_passage(self):
        self.assertEqual(next_passage((2, 3), 4, [], "in", 0), 0)
        self.assertEqual(next_passage((2, 3), 4, [], "out", 17), 17)

    def test_gap_that_fits_exactly(self):
        self.assertEqual(next_passage((1,), 3, [(0, "in"), (6, "in")], "in", 0), 3)
        self.assertEqual(next_passage((1,), 4, [(0, "in"), (7, "in")], "in", 0), 11)
        self.assertEqual(next_passage((4,), 1, [(0, "in"), (8, "in")], "out", 0), 4)
        self.assertEqual(next_passage((4,), 1, [(0, "in"), (7, "in")], "out", 0), 11)

    def test_passages_with_faults_among_themselves(self):
        passages = [(5, "in"), (5, "in"), (5, "out"), (6, "out")]
        handed = list(passages)
        self.assertEqual(next_passage((3,), 2, handed, "in", 4), 9)
        self.assertEqual(next_passage((3,), 2, handed, "in", 2), 2)
        self.assertEqual(next_passage((3,), 2, handed, "in", 3), 9)
        self.assertEqual(handed, passages)

    def test_great_headway(self):
        self.assertEqual(next_passage((3,), 10 ** 9, [(5, "in")], "in", 0), 10 ** 9 + 5)

    def test_against_the_ticks(self):
        for rng, channel, headway, passages in some_channels(3, 300):
            handed = list(passages)
            for way in ("in", "out"):
                start = rng.randint(0, 50)
                wanted = next(t for t in itertools.count(start) if is_free(channel, headway, passages, (t, way)))
                self.assertEqual(next_passage(channel, headway, handed, way, start), wanted)
            self.assertEqual(handed, passages)


class NextTidalTest(unittest.TestCase):
    def test_water_decides(self):
        self.assertEqual(next_tidal((2, 2), 1, [], "in", 4, TIDE, 5), 9)
        self.assertEqual(next_tidal((2, 2), 1, [], "in", 0, TIDE, 5), 0)
        self.assertEqual(next_tidal((2, 2), 1, [], "in", 0, TIDE, 0), 0)

    def test_passages_decide(self):
        self.assertEqual(next_tidal((2, 2), 3, [(9, "in")], "in", 4, TIDE, 5), 12)
        self.assertEqual(next_tidal((2, 2), 4, [(9, "in")], "in", 4, TIDE, 5), 21)
        self.assertEqual(next_tidal((2, 2), 5, [(9, "in")], "in", 9, TIDE, 0), 14)

    def test_none(self):
        self.assertIsNone(next_tidal((4, 4), 1, [], "in", 0, TIDE, 5))
        self.assertEqual(next_tidal((3, 4), 1, [], "in", 0, TIDE, 5), 9)
        self.assertIsNone(next_tidal((1,), 1, [(3, "in")], "in", 0, TIDE, 11))

    def test_against_the_ticks(self):
        for rng, channel, headway, passages in some_channels(4, 300):
            handed = list(passages)
            need, start, way = rng.randint(0, 8), rng.randint(0, 50), rng.choice(("in", "out"))
            total = sum(channel)
            found = next_tidal(channel, headway, handed, way, start, TIDE, need)
            self.assertEqual(handed, passages)
            self.assertEqual(found is None, next_open(TIDE, need, start, lasting=total) is None)
            if found is not None:
                wanted = next(
                    t for t in itertools.count(start)
                    if is_free(channel, headway, passages, (t, way))
                    and all(water(TIDE, t + k) >= need for k in range(total)))
                self.assertEqual(found, wanted)

    def test_great_calls_end_soon(self):
        table = tuple((k * 10, 250 + (k % 2) * 200) for k in range(19)) + ((200, 250),)
        passages = [(80 * k, "out" if k % 2 else "in") for k in range(12)]
        channel = (20, 20, 20, 20, 20, 20)
        self.assertGreater(next_tidal(channel, 90, passages, "in", 0, table, 250), 800)
        self.assertIsNone(next_tidal(channel, 90, passages, "in", 0, table, 300))


if __name__ == "__main__":
    unittest.main()
