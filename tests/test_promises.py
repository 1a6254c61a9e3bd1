import itertools
import random
import unittest

from odd_values import DEEP, ODD, with_changes
from some_ports import (
    AWAY, GONE, P, PROMISE_WORDS, WIDE, lies, plain_broken, plain_courses, some_book, some_port, some_promise, some_state,
    waits)

from tidewarden.promises import broken, first_break, is_promise

BOOK = (((), ("out", "first")), ((), ("in", "first", "first")))
COURSE = (((1,), ()), ((0,), ()), ((), ()), ((), ()))
WORDS = PROMISE_WORDS


def all_promises(port):
    vessels, ticks = range(len(port[4])), range(port[0])
    found = [(word, v, t) for word in ("berthed", "gone") for v in vessels for t in ticks]
    found += [("waits", v, most) for v in vessels for most in range(41)] + [("roads", most) for most in range(5)]
    return found + [("apart", v, w) for v in vessels for w in vessels if v != w] + [("afloat",)]


class IsPromiseTest(unittest.TestCase):
    def test_all_promises(self):
        for port in [P, WIDE, (1, 0, (0,), ((1, 0),), ((1, 0, 0, 0, 1),), 0)]:
            right = set(all_promises(port))
            for word in WORDS + ("berth", "", "Gone", "roads ", "kept"):
                self.assertIs(is_promise(port, (word,)), word == "afloat")
                for number in range(-2, 44):
                    self.assertIs(is_promise(port, (word, number)), (word, number) in right)
                    for other in range(-2, 44):
                        self.assertIs(is_promise(port, (word, number, other)), (word, number, other) in right)
                        self.assertIs(is_promise(port, (word, number, other, 0)), False)

    def test_each_bound(self):
        for promise, right in [
                (("berthed", 0, 0), True), (("berthed", 1, 3), True), (("berthed", 2, 0), False), (("berthed", 0, 4), False),
                (("berthed", -1, 0), False), (("berthed", 0, -1), False), (("gone", 1, 3), True), (("gone", 2, 0), False),
                (("gone", 0, 4), False), (("gone", 0, -1), False), (("waits", 0, 0), True), (("waits", 1, 40), True),
                (("waits", 0, 41), False), (("waits", 0, -1), False), (("waits", 2, 1), False), (("waits", -1, 1), False),
                (("roads", 0), True), (("roads", 4), True), (("roads", 5), False), (("roads", -1), False),
                (("afloat",), True), (("afloat", 0), False), (("apart", 0, 1), True), (("apart", 1, 0), True),
                (("apart", 0, 0), False), (("apart", 1, 1), False), (("apart", 0, 2), False), (("apart", -1, 0), False),
                (("apart", 0), False), (("roads",), False), (("roads", 0, 0), False), (("gone", 0), False)]:
            self.assertIs(is_promise(P, promise), right, promise)

    def test_forms(self):
        for promise in [("berthed", 0, 1), ("gone", 1, 3), ("waits", 0, 7), ("roads", 2), ("afloat",), ("apart", 1, 0)]:
            self.assertIs(is_promise(P, promise), True)
            self.assertIs(is_promise(P, list(promise)), False)
            self.assertIs(is_promise(P, (promise,)), False)
            for value in with_changes(promise):
                self.assertIs(is_promise(P, value), False, value)
            for k in range(1, len(promise)):
                for number in (True, False, 1.0, "1", None, (1,)):
                    self.assertIs(is_promise(P, promise[:k] + (number,) + promise[k + 1:]), False)
        for value in ODD + DEEP:
            self.assertIs(is_promise(P, value), False)
            self.assertIs(is_promise(P, (value,)), False)
            for word in WORDS:
                self.assertIs(is_promise(P, (word, value, value)), False)
                if type(value) is not int:
                    self.assertIs(is_promise(P, (word, value)), False)
                    self.assertIs(is_promise(P, (word, value, 0)), False)
                    self.assertIs(is_promise(P, (word, 0, value)), False)


# Two vessels, of which only the first one comes aground at the second berth at the tick 1.
PORT = (4, 50, (9, 3, 9, 9), ((9, 40), (9, 30), (9, 60)), ((5, 35, 0, 0, 2), (5, 33, 0, 0, 2), (5, 9, 0, 0, 2)), 0)
START = ((AWAY, AWAY, AWAY), 0)


class BrokenTest(unittest.TestCase):
    def told(self, promise, right, tick, after, middle=START):
        self.assertIs(broken(PORT, promise, tick, middle, after), right, (promise, tick, after, middle))

    def test_berthed_and_gone(self):
        for place, berthed in [(AWAY, True), (waits(2), True), (lies(1, 1), False), (lies(0, 0), False), (GONE, False)]:
            for v in range(3):
                places = [GONE, GONE, GONE]
                places[v] = place
                others = [AWAY, AWAY, AWAY]
                others[v] = place
                for state in [(tuple(places), 0), (tuple(others), 0)]:
                    for tick in range(4):
                        self.told(("berthed", v, 2), berthed and tick == 2, tick, state)
                        self.told(("gone", v, 2), place != GONE and tick == 2, tick, state)
                        # The middle of the tick does not count.
                        self.told(("berthed", v, 2), tick == 2, tick, START, state)
                        self.told(("gone", v, 2), tick == 2, tick, START, state)

    def test_waits(self):
        for most, ticks, tick in itertools.product((0, 1, 3, 40), (0, 1, 2, 3, 4, 40, 41), range(4)):
            after = ((AWAY, waits(ticks), GONE), 0)
            self.told(("waits", 1, most), ticks > most, tick, after)
            self.told(("waits", 0, most), False, tick, after)
            self.told(("waits", 2, most), False, tick, after)
            self.told(("waits", 1, most), False, tick, START, after)
        for place in [lies(2, 2), lies(2, 0), GONE, AWAY]:
            self.told(("waits", 1, 0), False, 1, ((AWAY, place, GONE), 0))

    def test_roads(self):
        for places in itertools.product((AWAY, waits(1), lies(0, 1), GONE), repeat=3):
            for most in range(5):
                for tick in range(2):
                    self.told(("roads", most), places.count(waits(1)) > most, tick, (places, 0))
                    self.told(("roads", most), False, tick, START, (places, 0))

    def test_afloat(self):
        for berth, tick in itertools.product(range(3), range(4)):
            for needs in (0, 1):
                middle = ((lies(berth, needs), AWAY, AWAY), 0)
                self.told(("afloat",), berth == 1 and tick == 1, tick, START, middle)
                self.told(("afloat",), False, tick, middle, START)
                self.told(("afloat",), False, tick, START, ((AWAY, lies(berth, needs), AWAY), 0))
                self.told(("afloat",), False, tick, START, ((AWAY, GONE, lies(berth, needs)), 0))
        self.told(("afloat",), True, 1, START, ((lies(1, 1), lies(0, 1), AWAY), 0))

    def test_apart(self):
        for one, two in itertools.permutations(range(3), 2):
            middle = ((lies(one, 1), AWAY, lies(two, 0)), 0)
            for tick in range(2):
                for v, w in [(0, 2), (2, 0)]:
                    self.told(("apart", v, w), abs(one - two) == 1, tick, START, middle)
                    self.told(("apart", v, w), False, tick, middle, START)
                self.told(("apart", 0, 1), False, tick, START, middle)
        for place in [AWAY, waits(0), waits(1), GONE]:
            for berth in range(3):
                self.told(("apart", 0, 1), False, 0, START, ((place, lies(berth, 1), AWAY), 0))
                self.told(("apart", 0, 1), False, 0, START, ((lies(berth, 1), place, AWAY), 0))

    def test_some_moments(self):
        rng = random.Random(1)
        seen = {}
        for _ in range(4000):
            port = some_port(rng, 4, 4, 3)
            tick, promise = rng.randrange(port[0]), some_promise(rng, port)
            middle, after = some_state(rng, port), some_state(rng, port)
            right = plain_broken(port, promise, tick, middle, after)
            self.assertIs(is_promise(port, promise), True)
            self.assertIs(broken(port, promise, tick, middle, after), right)
            seen[promise[0], right] = seen.get((promise[0], right), 0) + 1
        self.assertEqual(len(seen), 12)
        self.assertGreater(min(seen.values()), 20)


class FirstBreakTest(unittest.TestCase):
    def test_first_tick_and_least_number(self):
        for promises, told in [
                ((), None), ((("gone", 0, 3),), (3, 0)), ((("berthed", 1, 0), ("gone", 1, 2)), None),
                ((("gone", 0, 3), ("waits", 0, 1)), (2, 1)), ((("waits", 0, 0), ("waits", 0, 0)), (1, 0)),
                ((("roads", 1), ("roads", 0), ("waits", 0, 0)), (1, 1)), ((("waits", 0, 2), ("gone", 0, 3)), (3, 1)),
                ((("berthed", 0, 0), ("gone", 0, 3), ("gone", 1, 0)), (0, 0)), ((("afloat",),), (1, 0)),
                ((("gone", 0, 3), ("afloat",)), (1, 1)), ((("apart", 0, 1), ("waits", 0, 2)), None)]:
            self.assertEqual(first_break(P, BOOK, promises, COURSE), told, promises)
            self.assertIsNone(first_break(P, BOOK, promises, ()))

    def test_no_more_than_the_course(self):
        promises = (("gone", 0, 3), ("gone", 1, 1))
        self.assertIsNone(first_break(P, BOOK, promises, COURSE[:1]))
        self.assertEqual(first_break(P, BOOK, promises, COURSE[:2]), (1, 1))
        self.assertIsNone(first_break(P, BOOK, promises[:1], COURSE[:3]))

    def test_some_cases(self):
        rng = random.Random(2)
        seen = {}
        for _ in range(400):
            port, book = some_port(rng, 4, 3, 3), some_book(rng)
            promises = tuple(some_promise(rng, port) for _ in range(rng.randint(0, 6)))
            ticks = rng.randint(0, port[0])
            for course, triples in plain_courses(port, book, min(ticks, 3))[:10]:
                breaks = [
                    (tick, k) for tick, (_, middle, after) in enumerate(triples) for k, promise in enumerate(promises)
                    if plain_broken(port, promise, tick, middle, after)]
                told = min(breaks) if breaks else None
                self.assertEqual(first_break(port, book, promises, course), told)
                seen[told] = seen.get(told, 0) + 1
        self.assertGreater(len(seen), 10)
        self.assertGreater(seen[None], 100)


if __name__ == "__main__":
    unittest.main()
