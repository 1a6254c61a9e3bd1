import itertools
import random
import unittest

from some_ports import (
    AWAY, GONE, P, WIDE, lies, plain_arrivals, plain_arrived, plain_moved, plain_movements, plain_stops, plain_tick,
    plain_worked, some_port, some_state, waits)

from tidewarden.errors import NotAllowed, PortError
from tidewarden.ports import start_state
from tidewarden.ticking import (
    aground, arrivals_of, arrived, moved_state, movements_of, stops_of, tick_after, worked)


def some_moments(seed, many):
    rng = random.Random(seed)
    for _ in range(many):
        port = some_port(rng, 5, 4, 3)
        yield rng, port, rng.randrange(port[0]), some_state(rng, port)


def harbour(tide=5, bar=10, berths=((100, 20), (50, 30)), vessels=((80, 10, 0, 0, 3), (40, 12, 0, 0, 2)), stops=2):
    return (1, bar, (tide,), berths, vessels, stops)


class ArrivalsTest(unittest.TestCase):
    def test_may_and_must(self):
        port = (6, 0, (0,) * 6, ((1, 1),), ((1, 0, 1, 3, 1), (1, 0, 2, 2, 1), (1, 0, 0, 5, 1)), 0)
        told = [
            [(), (2,)], [(), (0,), (0, 2), (2,)], [(0, 1), (0, 1, 2), (1,), (1, 2)],
            [(0, 1), (0, 1, 2)], [(0, 1), (0, 1, 2)], [(0, 1, 2)]]
        for tick in range(6):
            self.assertEqual(arrivals_of(port, tick, start_state(port)), told[tick])

    def test_only_those_that_are_away(self):
        port = (6, 0, (0,) * 6, ((1, 1),), ((1, 0, 1, 3, 1), (1, 0, 2, 2, 1), (1, 0, 0, 5, 1)), 0)
        for place in [waits(1), lies(0, 1), lies(0, 0), GONE]:
            self.assertEqual(arrivals_of(port, 2, ((AWAY, place, AWAY), 0)), [(), (0,), (0, 2), (2,)])
            self.assertEqual(arrivals_of(port, 5, ((place, AWAY, AWAY), 0)), [(1, 2)])
        self.assertEqual(arrivals_of(port, 5, ((GONE, GONE, waits(2)), 0)), [()])
        self.assertEqual(arrivals_of(port, 0, ((AWAY, AWAY, GONE), 0)), [()])

    def test_example(self):
        self.assertEqual(arrivals_of(P, 0, start_state(P)), [(0, 1), (1,)])

    def test_ascending_order_of_tuples(self):
        port = (3, 0, (0,) * 3, ((1, 1),), ((1, 0, 0, 2, 1),) * 3, 0)
        self.assertEqual(
            arrivals_of(port, 0, start_state(port)), [(), (0,), (0, 1), (0, 1, 2), (0, 2), (1,), (1, 2), (2,)])

    def test_some_moments(self):
        for _, port, tick, state in some_moments(1, 500):
            found = arrivals_of(port, tick, state)
            self.assertIs(type(found), list)
            self.assertEqual(found, plain_arrivals(port, tick, state))
            for arrivals in found:
                after = arrived(state, arrivals)
                self.assertEqual(after, plain_arrived(state, arrivals))
                self.assertIs(type(after[0]), tuple)

    def test_arrived(self):
        state = ((AWAY, lies(0, 2), AWAY, waits(3), GONE), 2)
        self.assertEqual(arrived(state, ()), state)
        self.assertEqual(arrived(state, (0,)), ((waits(0), lies(0, 2), AWAY, waits(3), GONE), 2))
        self.assertEqual(arrived(state, (0, 2)), ((waits(0), lies(0, 2), waits(0), waits(3), GONE), 2))
        self.assertEqual(state, ((AWAY, lies(0, 2), AWAY, waits(3), GONE), 2))


class MovementsTest(unittest.TestCase):
    def test_none_always_can(self):
        for places in [(AWAY, AWAY), (GONE, GONE), (lies(0, 1), lies(1, 2)), (AWAY, lies(0, 1))]:
            self.assertEqual(movements_of(harbour(), 0, (places, 2)), [("none",)])
            self.assertEqual(moved_state(harbour(), (places, 2), ("none",)), (places, 2))

    def test_length(self):
        for length in (99, 100, 101):
            port = harbour(berths=((100, 20),), vessels=((length, 0, 0, 0, 1),))
            self.assertEqual(
                movements_of(port, 0, ((waits(0),), 2)), [("in", 0, 0), ("none",)] if length <= 100 else [("none",)])

    def test_depths_and_height(self):
        for bar, depth, tide, draught in itertools.product((8, 9, 10), (8, 9, 10), (1, 2), (9, 10, 11, 12, 13)):
            port = harbour(tide, bar, ((100, depth),), ((50, draught, 0, 0, 1),))
            goes_in = tide + bar >= draught and tide + depth >= draught
            self.assertEqual(("in", 0, 0) in movements_of(port, 0, ((waits(0),), 2)), goes_in)
            self.assertEqual(("out", 0) in movements_of(port, 0, ((lies(0, 0),), 2)), tide + bar >= draught)

    def test_height_of_the_tick(self):
        port = (4, 10, (0, 5, 4, 6), ((100, 10), (100, 11)), ((50, 15, 0, 0, 1),), 0)
        told = [[("none",)], [("in", 0, 0), ("in", 0, 1), ("none",)], [("none",)], [("in", 0, 0), ("in", 0, 1), ("none",)]]
        for tick in range(4):
            self.assertEqual(movements_of(port, tick, ((waits(0),), 0)), told[tick])
            self.assertEqual(
                movements_of(port, tick, ((lies(0, 0),), 0)), [("none",), ("out", 0)] if tick in (1, 3) else [("none",)])

    def test_taken_berths(self):
        port = harbour(vessels=((50, 0, 0, 0, 3),) * 3)
        self.assertEqual(
            movements_of(port, 0, ((waits(0), AWAY, GONE), 2)), [("in", 0, 0), ("in", 0, 1), ("none",)])
        for needs in (0, 1):
            out = [("out", 1)] if needs == 0 else []
            self.assertEqual(
                movements_of(port, 0, ((waits(0), lies(0, needs), AWAY), 2)), [("in", 0, 1), ("none",)] + out)
            self.assertEqual(
                movements_of(port, 0, ((waits(0), lies(1, needs), AWAY), 2)), [("in", 0, 0), ("none",)] + out)
        self.assertEqual(movements_of(port, 0, ((waits(0), lies(1, 1), lies(0, 2)), 2)), [("none",)])

    def test_work_that_is_left(self):
        for needs in range(4):
            self.assertEqual(
                movements_of(harbour(), 0, ((lies(1, needs), AWAY), 0)),
                [("none",)] if needs else [("none",), ("out", 0)])

    def test_ascending_order(self):
        state = ((waits(0), lies(1, 0), waits(3), lies(0, 0)), 1)
        port = harbour(berths=((9, 9), (9, 9), (9, 9), (9, 9)), vessels=((1, 1, 0, 0, 1),) * 4)
        self.assertEqual(movements_of(port, 0, state), [
            ("in", 0, 2), ("in", 0, 3), ("in", 2, 2), ("in", 2, 3), ("none",), ("out", 1), ("out", 3)])

    def test_some_moments(self):
        words = set()
        for _, port, tick, state in some_moments(2, 800):
            found = movements_of(port, tick, state)
            self.assertIs(type(found), list)
            self.assertEqual(found, plain_movements(port, tick, state))
            self.assertEqual(found, sorted(set(found)))
            for movement in found:
                words.add(movement[0])
                self.assertEqual(moved_state(port, state, movement), plain_moved(port, state, movement))
        self.assertEqual(words, {"in", "none", "out"})

    def test_moved_state(self):
        port = harbour()
        state = ((waits(4), lies(1, 0)), 2)
        self.assertEqual(moved_state(port, state, ("in", 0, 0)), ((lies(0, 3), lies(1, 0)), 2))
        self.assertEqual(moved_state(port, state, ("out", 1)), ((waits(4), GONE), 2))
        self.assertEqual(moved_state(port, state, ("none",)), state)
        self.assertEqual(moved_state(port, ((waits(4), waits(1)), 1), ("in", 1, 1)), ((waits(4), lies(1, 2)), 1))
        self.assertEqual(state, ((waits(4), lies(1, 0)), 2))


class StopsTest(unittest.TestCase):
    def test_stops_that_are_left(self):
        port = harbour(berths=((9, 9),) * 3, vessels=((1, 1, 0, 0, 9),) * 4, stops=3)
        state = (lies(2, 1), lies(0, 9), lies(1, 2), waits(1))
        told = [
            [()], [(), (0,), (1,), (2,)], [(), (0,), (0, 1), (0, 2), (1,), (1, 2), (2,)],
            [(), (0,), (0, 1), (0, 1, 2), (0, 2), (1,), (1, 2), (2,)]]
        for stops in range(4):
            self.assertEqual(stops_of(port, (state, stops)), told[stops])

    def test_vessels_that_need_work(self):
        port = harbour(vessels=((1, 1, 0, 0, 9),) * 3)
        for places, told in [
                ((AWAY, waits(2), GONE), [()]), ((AWAY, lies(0, 0), GONE), [()]), ((AWAY, lies(1, 0), lies(0, 0)), [()]),
                ((lies(1, 2), lies(0, 0), GONE), [(), (1,)]), ((AWAY, lies(0, 1), waits(1)), [(), (0,)]),
                ((lies(1, 1), lies(0, 1), AWAY), [(), (0,), (0, 1), (1,)])]:
            self.assertEqual(stops_of(port, (places, 2)), told)

    def test_worked(self):
        state = ((AWAY, waits(0), lies(0, 2), lies(2, 1), lies(1, 0), GONE, waits(7)), 3)
        self.assertEqual(
            worked(state, ()), ((AWAY, waits(1), lies(0, 1), lies(2, 0), lies(1, 0), GONE, waits(8)), 3))
        self.assertEqual(
            worked(state, (0,)), ((AWAY, waits(1), lies(0, 2), lies(2, 0), lies(1, 0), GONE, waits(8)), 2))
        self.assertEqual(
            worked(state, (2,)), ((AWAY, waits(1), lies(0, 1), lies(2, 1), lies(1, 0), GONE, waits(8)), 2))
        self.assertEqual(
            worked(state, (0, 2)), ((AWAY, waits(1), lies(0, 2), lies(2, 1), lies(1, 0), GONE, waits(8)), 1))
        self.assertEqual(state[0][1], waits(0))

    def test_some_moments(self):
        for _, port, _, state in some_moments(3, 800):
            found = stops_of(port, state)
            self.assertIs(type(found), list)
            self.assertEqual(found, plain_stops(port, state))
            for stops in found:
                self.assertEqual(worked(state, stops), plain_worked(state, stops))


class TickAfterTest(unittest.TestCase):
    def refused(self, *arguments):
        with self.assertRaises(PortError) as caught:
            tick_after(*arguments)
        self.assertIs(type(caught.exception), NotAllowed)

    def test_example(self):
        self.assertEqual(
            tick_after(P, 0, start_state(P), (1,), ("in", 1, 0), ()),
            ((((0, 0, 0), (2, 0, 2)), 1), (((0, 0, 0), (2, 0, 1)), 1)))

    def test_arrivals_that_cannot_happen(self):
        port = (6, 9, (0,) * 6, ((9, 9),), ((1, 0, 1, 3, 1), (1, 0, 2, 2, 1), (1, 0, 0, 5, 1)), 0)
        for tick, arrivals in [
                (0, (0,)), (0, (0, 2)), (1, (1,)), (2, ()), (2, (0,)), (2, (0, 2)), (3, (0,)), (5, ()), (5, (0, 1)),
                (1, (3,)), (1, (-1,)), (1, (0, 0)), (1, (2, 0)), (2, (1, 0)), (2, (1, 1)), (2, (0, 1, 3)), (2, (1, 99))]:
            self.refused(port, tick, start_state(port), arrivals, ("none",), ())
        for place in [waits(0), lies(0, 1), GONE]:
            self.refused(port, 2, ((place, AWAY, AWAY), 0), (0, 1), ("none",), ())
            tick_after(port, 2, ((place, AWAY, AWAY), 0), (1,), ("none",), ())

    def test_movements_that_cannot_happen(self):
        port = harbour(vessels=((80, 10, 0, 0, 3), (40, 12, 0, 0, 2), (40, 30, 0, 0, 2)))
        state = ((waits(0), lies(1, 0), waits(0)), 0)
        self.assertEqual(movements_of(port, 0, state), [("in", 0, 0), ("none",), ("out", 1)])
        for movement in [
                ("in", 0, 1), ("in", 1, 0), ("in", 2, 0), ("in", 3, 0), ("in", -3, 0), ("in", 0, 2), ("in", 0, -2),
                ("out", 0), ("out", 2), ("out", 3), ("out", -2), ("in",), ("in", 0), ("in", 0, 0, 0), ("out",),
                ("out", 1, 0), ("none", 0), ("none", 0, 0), ("", 0), ("In", 0, 0), ("in ", 0, 0), ("fly", 0, 0),
                ("arrive", 0), ("stop", 1), ("in", 0, 10 ** 30), ("out", 10 ** 30)]:
            self.refused(port, 0, state, (), movement, ())
        for movement in [("in", 0, 0), ("none",), ("out", 1)]:
            self.assertEqual(
                tick_after(port, 0, state, (), movement, ()), plain_tick(port, 0, state, (), movement, ()))

    def test_movement_of_a_vessel_that_arrives(self):
        port = harbour()
        state = ((AWAY, AWAY), 0)
        self.assertEqual(
            tick_after(port, 0, state, (0, 1), ("in", 0, 0), ()), (((lies(0, 3), waits(0)), 0), ((lies(0, 2), waits(1)), 0)))
        port = (2, 10, (5, 5), port[3], ((80, 10, 0, 1, 3), (40, 12, 0, 0, 2)), 0)
        self.refused(port, 0, state, (1,), ("in", 0, 0), ())

    def test_stops_that_cannot_happen(self):
        port = harbour(berths=((90, 20),) * 3, vessels=((80, 10, 0, 0, 3),) * 3, stops=3)
        state = ((lies(0, 1), lies(2, 0), waits(0)), 1)
        self.assertEqual(
            tick_after(port, 0, state, (), ("in", 2, 1), (1,)),
            (((lies(0, 1), lies(2, 0), lies(1, 3)), 1), ((lies(0, 0), lies(2, 0), lies(1, 3)), 0)))
        for movement, stops in [
                (("none",), (1,)), (("none",), (2,)), (("in", 2, 1), (2,)), (("in", 2, 1), (0, 1)), (("in", 2, 1), (0, 0)),
                (("in", 2, 1), (3,)), (("in", 2, 1), (-1,)), (("out", 1), (2,))]:
            self.refused(port, 0, state, (), movement, stops)
        full = ((lies(0, 1), lies(2, 2), waits(0)), 3)
        for stops in [(2, 0), (0, 2, 2), (0, 0), (0, 1), (0, 1, 2), (0, 2, 3)]:
            self.refused(port, 0, full, (), ("none",), stops)
        self.assertEqual(
            tick_after(port, 0, full, (), ("none",), (0, 2))[1], ((lies(0, 1), lies(2, 2), waits(1)), 1))
        self.refused(port, 0, (full[0], 0), (), ("none",), (0,))
        self.refused(port, 0, (full[0], 1), (), ("none",), (0, 2))

    def test_two_faults_at_once(self):
        port = harbour()
        state = ((waits(0), AWAY), 0)
        self.refused(port, 0, state, (), ("out", 0), ())
        self.refused(port, 0, state, (), ("out", 0), (1,))
        self.refused(port, 0, state, (1,), ("out", 0), (1,))
        self.refused(port, 0, state, (0, 1), ("none",), (0,))
        self.refused(port, 0, state, (5,), ("in", 9, 9), (9,))

    def test_some_moments(self):
        can = cannot = 0
        for rng, port, tick, state in some_moments(4, 2500):
            arrivals = rng.choice(plain_arrivals(port, tick, state) + [(0,), ()])
            movements = [("none",), ("in", 0, 0), ("out", 0)]
            movement = rng.choice(plain_movements(port, tick, plain_arrived(state, arrivals)) + movements)
            stops = rng.choice([(), (0,), (1,), (0, 1)])
            right = plain_tick(port, tick, state, arrivals, movement, stops)
            if right is None:
                cannot += 1
                self.refused(port, tick, state, arrivals, movement, stops)
            else:
                can += 1
                self.assertEqual(tick_after(port, tick, state, arrivals, movement, stops), right)
        self.assertGreater(min(can, cannot), 200)

    def test_tick_after_the_day(self):
        # The interface lets callers go somewhat beyond limits without an error.
        state = ((waits(1), lies(0, 0)), 0)
        self.assertEqual(arrivals_of(P, 4, state), [()])
        self.assertIn(("none",), movements_of(P, 5, state))
        self.assertIs(type(aground(P, 4, state)), list)


class AgroundTest(unittest.TestCase):
    def test_draughts(self):
        for tide, depth, draught in itertools.product((0, 1, 3), (0, 5, 9), range(14)):
            port = harbour(tide, 0, ((1, 99), (1, depth)), ((9, 0, 0, 0, 1), (9, draught, 0, 0, 1)))
            self.assertEqual(aground(port, 0, ((lies(0, 0), lies(1, 1)), 0)), [1] if draught > tide + depth else [])
            for place in [AWAY, waits(1), GONE]:
                self.assertEqual(aground(port, 0, ((lies(0, 0), place), 0)), [])

    def test_order_and_ticks(self):
        port = (3, 0, (0, 7, 3), ((9, 3), (9, 2), (9, 9)), ((9, 8, 0, 0, 1), (9, 12, 0, 0, 1), (9, 9, 0, 0, 1)), 0)
        state = ((lies(1, 1), lies(2, 0), lies(0, 1)), 0)
        self.assertEqual([aground(port, tick, state) for tick in range(3)], [[0, 1, 2], [], [0, 2]])

    def test_some_moments(self):
        for _, port, tick, state in some_moments(5, 500):
            told = [
                v for v, (kind, berth, _) in enumerate(state[0])
                if kind == 2 and port[4][v][1] > port[2][tick] + port[3][berth][1]]
            self.assertEqual(aground(port, tick, state), told)
            self.assertIs(type(aground(port, tick, state)), list)


if __name__ == "__main__":
    unittest.main()
