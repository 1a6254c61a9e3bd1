import itertools
import random
import unittest

from odd_values import DEEP, ODD, with_changes
from some_ports import AWAY, GONE, P, WIDE, lies, plain_courses, some_book, some_port, some_state, waits

from tidewarden.ports import is_port, is_state, start_state


def with_item(value, k, item):
    return value[:k] + (item,) + value[k + 1:]


ODD_NUMBERS = (True, False, 1.0, "1", None, (), (1,), [1])


class IsPortTest(unittest.TestCase):
    def test_ports(self):
        for port in [P, WIDE, (1, 0, (0,), ((1, 0),), ((1, 0, 0, 0, 1),), 0)]:
            self.assertIs(is_port(port), True)
        rng = random.Random(1)
        for _ in range(100):
            self.assertIs(is_port(some_port(rng, 40, 4, 3, 9)), True)

    def test_ticks_and_tide(self):
        for ticks in (1, 2, 39, 40, 0, 41, -1):
            for heights in {max(0, ticks - 1), max(0, ticks), ticks + 1}:
                port = (ticks, 0, (500,) * heights, ((1, 1),), ((1, 1, 0, 0, 1),), 0)
                self.assertIs(is_port(port), 1 <= ticks <= 40 and heights == ticks, (ticks, heights))
        for ticks in ODD_NUMBERS:
            self.assertIs(is_port(with_item((1, 0, (0,), ((1, 1),), ((1, 1, 0, 0, 1),), 0), 0, ticks)), False)
        for height in (-1, 501, 1000) + ODD_NUMBERS:
            self.assertIs(is_port(with_item(P, 2, (5, height, 5, 5))), False, height)
        for height in (0, 1, 499, 500):
            self.assertIs(is_port(with_item(P, 2, (5, height, 5, 5))), True)
        for tide in ([5, 0, 5, 5], 5, None, "abcd", {0: 5}):
            self.assertIs(is_port(with_item(P, 2, tide)), False)

    def test_bar_and_stops(self):
        for bar in (0, 1, 499, 500):
            self.assertIs(is_port(with_item(P, 1, bar)), True)
        for bar in (-1, 501) + ODD_NUMBERS:
            self.assertIs(is_port(with_item(P, 1, bar)), False)
        for stops in (0, 1, 2, 3):
            self.assertIs(is_port(with_item(P, 5, stops)), True)
        for stops in (-1, 4) + ODD_NUMBERS:
            self.assertIs(is_port(with_item(P, 5, stops)), False)

    def test_berths(self):
        for many in range(6):
            self.assertIs(is_port(with_item(P, 3, ((100, 8),) * many)), 1 <= many <= 3)
        for length, depth in itertools.product((1, 2, 399, 400), (0, 1, 499, 500)):
            self.assertIs(is_port(with_item(P, 3, ((100, 8), (length, depth)))), True)
        for length in (0, -1, 401) + ODD_NUMBERS:
            self.assertIs(is_port(with_item(P, 3, ((100, 8), (length, 1)))), False)
        for depth in (-1, 501) + ODD_NUMBERS:
            self.assertIs(is_port(with_item(P, 3, ((100, 8), (1, depth)))), False)
        for berths in ([(100, 8)], ([100, 8],), ((100,),), ((100, 8, 1),), (100, 8), None, 1):
            self.assertIs(is_port(with_item(P, 3, berths)), False)

    def test_vessels(self):
        def with_vessel(*vessel):
            return with_item(P, 4, ((80, 12, 0, 1, 1), vessel))

        for many in range(7):
            self.assertIs(is_port(with_item(P, 4, ((80, 12, 0, 1, 1),) * many)), 1 <= many <= 4)
        right = (80, 12, 0, 1, 1)
        for k, low, high in [(0, 1, 400), (1, 0, 900), (4, 1, 9)]:
            for number in (low, low + 1, high - 1, high):
                self.assertIs(is_port(with_vessel(*with_item(right, k, number))), True)
            for number in (low - 1, -1, high + 1) + ODD_NUMBERS:
                self.assertIs(is_port(with_vessel(*with_item(right, k, number))), False, (k, number))
        for early, late in itertools.product(range(-1, 6), repeat=2):
            self.assertIs(is_port(with_vessel(80, 12, early, late, 1)), 0 <= early <= late <= 3, (early, late))
        for tick in ODD_NUMBERS:
            self.assertIs(is_port(with_vessel(80, 12, tick, 3, 1)), False)
            self.assertIs(is_port(with_vessel(80, 12, 0, tick, 1)), False)
        for vessels in ([right], (list(right),), (right[:4],), (right + (1,),), right, None, 1):
            self.assertIs(is_port(with_item(P, 4, vessels)), False)

    def test_forms(self):
        for value in [list(P), P[:5], P + (1,), P[1:], (P,), ()]:
            self.assertIs(is_port(value), False)
        for value in ODD + DEEP:
            self.assertIs(is_port(value), False)
            for k in range(2, 5):
                self.assertIs(is_port(with_item(P, k, value)), False)
                self.assertIs(is_port(with_item(P, k, (value,) * 4)), False)
            self.assertIs(is_port(with_item(P, 3, ((value, 8),))), type(value) is int and 1 <= value <= 400)
        kept = [repr(with_item(P, 4, P[4][:1])), repr(with_item(P, 4, P[4][1:]))]
        for value in with_changes(P):
            self.assertIs(is_port(value), repr(value) in kept, value)


def plain_place(port, vessel, place):
    """The words of point 13.2 for a triple of integers."""
    if place in (AWAY, GONE):
        return True
    if place in [waits(ticks) for ticks in range(port[0] + 1)]:
        return True
    return place in [lies(berth, needs) for berth in range(len(port[3])) for needs in range(vessel[4] + 1)]


class IsStateTest(unittest.TestCase):
    def test_each_triple(self):
        for port in [P, WIDE]:
            for v, vessel in enumerate(port[4]):
                for place in itertools.product(range(-1, 5), range(-1, port[0] + 3), range(-1, 12)):
                    places = with_item((AWAY,) * len(port[4]), v, place)
                    self.assertIs(is_state(port, (places, 0)), plain_place(port, vessel, place), place)

    def test_each_bound(self):
        rest = (AWAY,) * 3
        for place, right in [
                ((0, 0, 0), True), ((0, 1, 0), False), ((0, 0, 1), False), ((3, 0, 0), True), ((3, 1, 0), False),
                ((3, 0, 1), False), ((1, 0, 0), True), ((1, 12, 0), True), ((1, 13, 0), False), ((1, -1, 0), False),
                ((1, 0, 1), False), ((2, 0, 0), True), ((2, 2, 2), True), ((2, 3, 0), False), ((2, -1, 0), False),
                ((2, 0, 3), False), ((2, 0, -1), False), ((4, 0, 0), False), ((-1, 0, 0), False)]:
            self.assertIs(is_state(WIDE, ((place, *rest), 2)), right, place)

    def test_two_at_one_berth(self):
        for one, two in itertools.product(range(3), repeat=2):
            state = ((lies(one, 1), AWAY, lies(two, 0), GONE), 0)
            self.assertIs(is_state(WIDE, state), one != two)
        self.assertIs(is_state(WIDE, ((waits(1), waits(1), waits(1), GONE), 0)), True)
        self.assertIs(is_state(WIDE, ((lies(0, 1), lies(1, 1), lies(2, 1), lies(0, 1)), 0)), False)

    def test_stops(self):
        for stops in range(-1, 5):
            self.assertIs(is_state(WIDE, ((AWAY,) * 4, stops)), 0 <= stops <= 2)
            self.assertIs(is_state(P, ((AWAY,) * 2, stops)), 0 <= stops <= 1)
        for stops in ODD_NUMBERS:
            self.assertIs(is_state(WIDE, ((AWAY,) * 4, stops)), False)

    def test_forms(self):
        state = ((lies(0, 1), waits(3)), 1)
        self.assertIs(is_state(P, state), True)
        for value in [
                list(state), (list(state[0]), 1), (state[0],), state + (1,), ((AWAY,), 1), ((AWAY,) * 3, 1), ((), 1),
                (([2, 0, 1], waits(3)), 1), ((lies(0, 1)[:2], waits(3)), 1), ((lies(0, 1) + (0,), waits(3)), 1),
                ((lies(False, 1), waits(3)), 1), ((lies(0, True), waits(3)), 1), ((lies(0, 1), waits(True)), 1),
                (((True, 0, 0), AWAY), 1), (((False, 0, 0), AWAY), 1), (((0, 0, False), AWAY), 1),
                (((0.0, 0, 0), AWAY), 1), (((1, 1.0, 0), AWAY), 1), ((("0", 0, 0), AWAY), 1), (((None,) * 3, AWAY), 1)]:
            self.assertIs(is_state(P, value), False, value)
        for value in ODD + DEEP:
            self.assertIs(is_state(P, value), False)
            self.assertIs(is_state(P, ((AWAY, value), 1)), False)
            self.assertIs(is_state(P, ((AWAY, (value, 0, 0)), 1)), False)
            self.assertIs(is_state(P, (value, 1)), False)
        for value in with_changes(state):
            self.assertIs(is_state(P, value), False, value)

    def test_some_states(self):
        rng = random.Random(2)
        for _ in range(200):
            port = some_port(rng, 8, 4, 3)
            self.assertIs(is_state(port, some_state(rng, port)), True)

    def test_all_states_of_courses(self):
        rng = random.Random(3)
        for _ in range(30):
            port = some_port(rng, 4, 2)
            for _, triples in plain_courses(port, some_book(rng), port[0]):
                for _, middle, after in triples:
                    self.assertTrue(is_state(port, middle) and is_state(port, after))


class StartStateTest(unittest.TestCase):
    def test_start(self):
        self.assertEqual(start_state(P), (((0, 0, 0), (0, 0, 0)), 1))
        self.assertEqual(start_state(WIDE), ((AWAY,) * 4, 2))
        for port in [P, WIDE]:
            self.assertIs(is_state(port, start_state(port)), True)


if __name__ == "__main__":
    unittest.main()
