import random
import unittest
from fractions import Fraction
from math import floor

from odd_values import ODD, with_changes

from tidewarden.spells import is_spells
from tidewarden.tides import is_tide, lowest, next_open, open_spells, tide_row, water

LOW_TIDE = ((0, 10), (6, 0), (12, 10))


def plain_water(table, tick):
    rest = tick % table[-1][0]
    for (s, h), (e, k) in zip(table, table[1:]):
        if s <= rest < e:
            return h + floor(Fraction((k - h) * (rest - s), e - s))
    raise AssertionError("no neighbours")


def some_tables(seed, many):
    rng = random.Random(seed)
    for _ in range(many):
        pairs = rng.randint(2, 6)
        ticks = [0] + sorted(rng.sample(range(1, 20), pairs - 1))
        heights = [rng.randint(0, 12) for _ in range(pairs - 1)]
        yield tuple(zip(ticks, heights + heights[:1]))


class IsTideTest(unittest.TestCase):
    def test_tables(self):
        longest = tuple((k, k % 19) for k in range(20))
        for value in [
                LOW_TIDE, ((0, 0), (1, 0)), ((0, 500), (200, 500)), ((0, 3), (5, 500), (6, 0), (200, 3)),
                longest[:-1] + ((19, 0),)]:
            self.assertIs(is_tide(value), True, value)

    def test_no_tables(self):
        for value in [
                (), ((0, 5),), ((1, 5), (3, 5)), ((-1, 5), (3, 5)), ((0, 5), (0, 5)), ((0, 5), (4, 3), (4, 5)),
                ((0, 5), (4, 3), (3, 5)), ((0, 5), (201, 5)), ((0, 5), (3, 4)), ((0, 501), (3, 501)),
                ((0, -1), (3, -1)), ((0, 5), (2, 501), (3, 5)), ((0, 5), (2, -1), (3, 5)),
                tuple((k, 0) for k in range(21)), ((False, 5), (3, 5)), ((0, 5), (True, 5)), ((0, True), (3, 1)),
                ((0, 1), (3, True)), ((0, 1), (2, False), (3, 1)), [(0, 5), (3, 5)], ([0, 5], [3, 5]),
                ((0, 5), [3, 5]), ((0, 5, 1), (3, 5, 1)), ((0,), (3,)), ((0, 5), (3.0, 5)), ((0, 5.0), (3, 5.0)),
                ((0, "5"), (3, "5"))]:
            self.assertIs(is_tide(value), False, value)

    def test_twenty_pairs_and_one_more(self):
        self.assertIs(is_tide(tuple((k, 4) for k in range(20))), True)
        self.assertIs(is_tide(tuple((k, 4) for k in range(21))), False)

    def test_any_value(self):
        for value in ODD:
            self.assertIs(is_tide(value), False)
        for value in with_changes(LOW_TIDE, (None, True, "a", -1, 1.0, (), [])):
            self.assertIs(is_tide(value), value == ((0, 10), (12, 10)), value)


class WaterTest(unittest.TestCase):
    def test_example(self):
        self.assertEqual([water(LOW_TIDE, tick) for tick in range(8)], [10, 8, 6, 5, 3, 1, 0, 1])

    def test_told_ticks_and_later_periods(self):
        table = ((0, 7), (3, 20), (10, 0), (11, 7))
        for turn in range(4):
            for tick, height in table[:-1]:
                self.assertEqual(water(table, 11 * turn + tick), height)
        self.assertEqual(water(table, 11 * 10 ** 12 + 3), 20)

    def test_rises_and_falls_to_the_lower_integer(self):
        self.assertEqual([water(((0, 0), (3, 2), (6, 0)), tick) for tick in range(7)], [0, 0, 1, 2, 1, 0, 0])

    def test_against_fractions(self):
        for table in some_tables(1, 60):
            self.assertIs(is_tide(table), True)
            for tick in range(60):
                self.assertEqual(water(table, tick), plain_water(table, tick))

    def test_tide_row(self):
        self.assertEqual(tide_row(LOW_TIDE, 0), ())
        self.assertEqual(tide_row(LOW_TIDE, 1), (10,))
        self.assertEqual(tide_row(LOW_TIDE, 14), (10, 8, 6, 5, 3, 1, 0, 1, 3, 5, 6, 8, 10, 8))
        self.assertIs(type(tide_row(LOW_TIDE, 3)), tuple)
        self.assertEqual(len(tide_row(LOW_TIDE, 2000)), 2000)


class OpenTest(unittest.TestCase):
    def test_open_spells(self):
        self.assertEqual(open_spells(LOW_TIDE, 10, 0), ())
        self.assertEqual(open_spells(LOW_TIDE, 0, 0), ())
        self.assertEqual(open_spells(LOW_TIDE, 0, 30), ((0, 30),))
        self.assertEqual(open_spells(LOW_TIDE, -4, 5), ((0, 5),))
        self.assertEqual(open_spells(LOW_TIDE, 11, 30), ())
        self.assertEqual(open_spells(LOW_TIDE, 10, 30), ((0, 1), (12, 13), (24, 25)))
        self.assertEqual(open_spells(LOW_TIDE, 6, 23), ((0, 3), (10, 15), (22, 23)))

    def test_open_spells_against_the_ticks(self):
        for table in some_tables(2, 30):
            for need in range(-1, 14):
                for until in (0, 1, 7, 45):
                    found = open_spells(table, need, until)
                    self.assertIs(is_spells(found), True)
                    ticks = [t for begin, end in found for t in range(begin, end)]
                    self.assertEqual(ticks, [t for t in range(until) if plain_water(table, t) >= need])

    def test_lowest(self):
        self.assertEqual(lowest(LOW_TIDE, 0, 30), (0, 6))
        self.assertEqual(lowest(LOW_TIDE, 7, 30), (0, 18))
        self.assertEqual(lowest(LOW_TIDE, 7, 8), (1, 7))
        self.assertEqual(lowest(LOW_TIDE, 8, 17), (3, 8))
        self.assertEqual(lowest(((0, 4), (9, 4)), 5, 8), (4, 5))
        self.assertEqual(lowest(LOW_TIDE, 0, 10 ** 12), (0, 6))
        self.assertIs(type(lowest(LOW_TIDE, 0, 3)), tuple)

    def test_lowest_against_the_ticks(self):
        for table in some_tables(3, 30):
            for begin in range(0, 30, 3):
                for end in range(begin + 1, 60, 5):
                    waters = [plain_water(table, t) for t in range(begin, end)]
                    least = min(waters)
                    self.assertEqual(lowest(table, begin, end), (least, begin + waters.index(least)))


class NextOpenTest(unittest.TestCase):
    def test_examples(self):
        self.assertEqual(next_open(LOW_TIDE, 5, 4, lasting=4), 9)
        # The open time from 9 to 15 has 7 ticks.
        self.assertEqual(next_open(LOW_TIDE, 5, 4, lasting=7), 9)
        self.assertIsNone(next_open(LOW_TIDE, 5, 4, lasting=8))
        self.assertEqual(next_open(LOW_TIDE, 5, 10, lasting=6), 10)
        self.assertEqual(next_open(LOW_TIDE, 5, 10, lasting=7), 21)
        self.assertEqual(next_open(LOW_TIDE, 5, 12 * 1000 + 4), 12009)
        self.assertEqual(next_open(LOW_TIDE, 5, 9), 9)
        self.assertIsNone(next_open(LOW_TIDE, 11, 0))

    def test_need_that_always_holds(self):
        self.assertEqual(next_open(LOW_TIDE, 0, 5, lasting=400), 5)
        self.assertEqual(next_open(LOW_TIDE, -3, 7, lasting=13), 7)
        self.assertEqual(next_open(((0, 3), (1, 3)), 3, 0, lasting=400), 0)
        self.assertIsNone(next_open(LOW_TIDE, 1, 5, lasting=12))
        self.assertEqual(next_open(LOW_TIDE, 1, 5, lasting=11), 7)

    def test_lasting_is_by_keyword_only(self):
        with self.assertRaises(TypeError):
            next_open(LOW_TIDE, 5, 4, 4)

    def test_against_the_ticks(self):
        for table in some_tables(4, 25):
            row = [plain_water(table, t) for t in range(140)]
            for need in range(0, 14):
                for start in (0, 1, 5, 18, 40):
                    for lasting in (1, 2, 3, 7, 19, 22):
                        fits = [t for t in range(start, start + 40) if min(row[t:t + lasting]) >= need]
                        wanted = fits[0] if fits else None
                        self.assertEqual(next_open(table, need, start, lasting=lasting), wanted)
                    fits = [t for t in range(start, start + 40) if row[t] >= need]
                    self.assertEqual(next_open(table, need, start), fits[0] if fits else None)

    def test_great_calls_end_soon(self):
        table = tuple((k * 10, 250 + (k % 2) * 200) for k in range(19)) + ((200, 250),)
        self.assertIs(is_tide(table), True)
        self.assertEqual(len(tide_row(table, 2000)), 2000)
        self.assertGreater(len(open_spells(table, 300, 2000)), 20)
        self.assertEqual(next_open(table, 250, 1999, lasting=400), 1999)


if __name__ == "__main__":
    unittest.main()
