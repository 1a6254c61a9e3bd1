import itertools
import random
import unittest

from odd_values import ODD

from tidewarden import spells
from tidewarden.errors import BadText, PortError
from tidewarden.spells import (
    common, first_room, holds, is_spells, joined, moved, read_spells, spells_of, ticks_in, without, write_spells)

REACH = 9


def plain_ticks(a):
    return {tick for begin, end in a for tick in range(begin, end)}


def plain_spells(ticks):
    """The spells of a set of ticks, built by another way than the program's."""
    ticks = set(ticks)
    begins = sorted(tick for tick in ticks if tick - 1 not in ticks)
    ends = sorted(tick + 1 for tick in ticks if tick + 1 not in ticks)
    return tuple(zip(begins, ends))


def all_spells(reach):
    for bits in itertools.product((0, 1), repeat=reach):
        yield plain_spells([k for k in range(reach) if bits[k]])


SOME = [a for a in all_spells(6)]


class IsSpellsTest(unittest.TestCase):
    def test_spells(self):
        for value in [(), ((0, 1),), ((3, 5), (9, 10)), ((0, 1), (2, 3), (4, 10 ** 20))]:
            self.assertIs(is_spells(value), True, value)

    def test_no_spells(self):
        for value in [
                ((3, 5), (5, 6)), ((3, 5), (4, 6)), ((3, 5), (1, 2)), ((3, 5), (3, 5)), ((3, 3),), ((5, 3),),
                ((-1, 2),), ((-2, -1),), ((0, 1), (3, 3)), ((0, 1), (2, 3), (3, 4)), (3, 5), (0, 1),
                ((False, 1),), ((0, True),), ((0, 1), (True, 3)), [(0, 1)], ([0, 1],), ((0, 1), [3, 4]),
                ((0, 1, 2),), ((0,),), ((),), ((0.0, 1),), (("0", "1"),), ((None, 1),)]:
            self.assertIs(is_spells(value), False, value)

    def test_any_value(self):
        for value in ODD:
            self.assertIs(is_spells(value), False)

    def test_all_pairs(self):
        for a, b, c, d in itertools.product(range(-1, 5), repeat=4):
            self.assertIs(is_spells(((a, b), (c, d))), 0 <= a < b < c < d)


class SpellsOfTest(unittest.TestCase):
    def test_examples(self):
        self.assertEqual(spells_of([4, 3, 9, 4]), ((3, 5), (9, 10)))
        self.assertEqual(spells_of([]), ())
        self.assertEqual(spells_of([0]), ((0, 1),))
        self.assertEqual(spells_of([7, 7, 7]), ((7, 8),))
        self.assertEqual(spells_of([2, 1, 0]), ((0, 3),))

    def test_any_order_and_repeated(self):
        for ticks in itertools.product(range(5), repeat=4):
            handed = list(ticks)
            self.assertEqual(spells_of(handed), plain_spells(ticks))
            self.assertEqual(handed, list(ticks))
            self.assertIs(is_spells(spells_of(handed)), True)


class SetsTest(unittest.TestCase):
    def test_against_the_ticks(self):
        for a, b in itertools.product(SOME, repeat=2):
            one, two = plain_ticks(a), plain_ticks(b)
            self.assertEqual(common(a, b), plain_spells(one & two))
            self.assertEqual(joined(a, b), plain_spells(one | two))
            self.assertEqual(without(a, b), plain_spells(one - two))

    def test_against_the_ticks_by_chance(self):
        rng = random.Random(5)
        for _ in range(200):
            one = {rng.randrange(120) for _ in range(rng.randrange(90))}
            two = {rng.randrange(120) for _ in range(rng.randrange(90))}
            a, b = plain_spells(one), plain_spells(two)
            self.assertEqual(common(a, b), plain_spells(one & two))
            self.assertEqual(joined(a, b), plain_spells(one | two))
            self.assertEqual(without(a, b), plain_spells(one - two))
            self.assertEqual(ticks_in(a), len(one))

    def test_results_are_tuples_of_tuples(self):
        a, b = ((0, 4), (6, 8)), ((2, 7),)
        for found in [common(a, b), joined(a, b), without(a, b), moved(a, 1), moved(a, -1), spells_of([1])]:
            self.assertIs(type(found), tuple)
            self.assertTrue(all(type(item) is tuple for item in found))

    def test_moved(self):
        for a in SOME:
            for by in range(-8, 9):
                self.assertEqual(moved(a, by), plain_spells(t + by for t in plain_ticks(a) if t + by >= 0), (a, by))
        self.assertEqual(moved(((3, 5), (9, 10)), -4), ((0, 1), (5, 6)))
        self.assertEqual(moved(((3, 5), (9, 10)), -5), ((4, 5),))
        self.assertEqual(moved(((3, 5),), -50), ())

    def test_holds_and_ticks_in(self):
        for a in SOME:
            ticks = plain_ticks(a)
            self.assertEqual(ticks_in(a), len(ticks))
            for tick in range(REACH):
                self.assertIs(holds(a, tick), tick in ticks)

    def test_long_spells_end_soon(self):
        a = tuple((k * 10 ** 7, k * 10 ** 7 + 10 ** 6) for k in range(40))
        b = moved(a, 500000)
        self.assertEqual(ticks_in(common(a, b)), 40 * 500000)
        self.assertEqual(ticks_in(joined(a, b)), 40 * 1500000)
        self.assertEqual(without(a, b)[3], (3 * 10 ** 7, 3 * 10 ** 7 + 500000))
        self.assertEqual(first_room(a, 10 ** 7 + 1, lasting=10 ** 6), 2 * 10 ** 7)


class FirstRoomTest(unittest.TestCase):
    def test_against_the_ticks(self):
        for a in SOME:
            ticks = plain_ticks(a)
            for start in range(REACH):
                for lasting in range(1, 8):
                    fits = [t for t in range(start, 20) if all(t + k in ticks for k in range(lasting))]
                    self.assertEqual(first_room(a, start, lasting=lasting), fits[0] if fits else None)
                fits = [t for t in range(start, 20) if t in ticks]
                self.assertEqual(first_room(a, start), fits[0] if fits else None)

    def test_edges(self):
        a = ((3, 5), (9, 20))
        self.assertEqual(first_room(a, 4, lasting=3), 9)
        self.assertEqual(first_room(a, 0, lasting=2), 3)
        self.assertEqual(first_room(a, 3, lasting=2), 3)
        self.assertEqual(first_room(a, 4, lasting=2), 9)
        self.assertEqual(first_room(a, 10, lasting=10), 10)
        self.assertIsNone(first_room(a, 11, lasting=10))
        self.assertEqual(first_room(a, 0, lasting=11), 9)
        self.assertIsNone(first_room(a, 0, lasting=12))
        self.assertIsNone(first_room(a, 20))
        self.assertEqual(first_room(a, 19), 19)
        self.assertIsNone(first_room((), 0))

    def test_lasting_is_by_keyword_only(self):
        with self.assertRaises(TypeError):
            first_room(((3, 5),), 0, 2)


class TextTest(unittest.TestCase):
    def test_written_and_read(self):
        self.assertEqual(write_spells(()), "never")
        self.assertEqual(read_spells("never"), ())
        self.assertEqual(write_spells(((3, 5), (9, 10))), "3..5 9..10")
        self.assertEqual(read_spells("3..5 9..10"), ((3, 5), (9, 10)))
        self.assertEqual(read_spells("0..999999999"), ((0, 999999999),))
        for a in SOME:
            self.assertEqual(read_spells(write_spells(a)), a)

    def test_no_texts(self):
        for text in [
                "", " ", "never ", " never", "Never", "never never", "never 3..5", "3..5 never", "03..5", "3..05",
                "00..5", "+3..5", "-3..5", "3..+5", "3..-5", "3.. 5", "3 ..5", " 3..5", "3..5 ", "3..5  9..10",
                "3..5\n9..10", "3..5\n", "3...5", "3.5", "3..", "..5", "..", "3", "3-5", "3..5..7", "5..3", "3..3",
                "3..5 5..6", "3..5 4..6", "9..10 3..5", "3..5 3..5", "3..5,9..10", "3..5_0", "3..5x", "a..b",
                "3..5 9", "0x3..5", "1_0..20", "3..1000000000", "\t3..5"]:
            with self.assertRaises(BadText, msg=text):
                read_spells(text)

    def test_changed_texts(self):
        text = "3..5 9..10 12..30"
        for k, sign in itertools.product(range(len(text) + 1), " .-+0a\n"):
            for changed in (text[:k] + sign + text[k:], text[:k] + sign + text[k + 1:], text[:k] + text[k + 1:]):
                try:
                    found = read_spells(changed)
                except PortError as error:
                    self.assertIs(type(error), BadText)
                else:
                    self.assertEqual(write_spells(found), changed)

    def test_long_text_ends_soon(self):
        text = " ".join(f"{k}..{k + 1}" for k in range(0, 14000, 2))
        self.assertEqual(len(read_spells(text)), 7000)
        with self.assertRaises(BadText):
            read_spells("1" * 100000)


class InterfaceTest(unittest.TestCase):
    def test_defined_there(self):
        for name in ["is_spells", "holds", "spells_of", "common", "joined", "without", "moved", "ticks_in",
                     "first_room", "write_spells", "read_spells"]:
            self.assertEqual(getattr(spells, name).__module__, "tidewarden.spells")


if __name__ == "__main__":
    unittest.main()
