import itertools
import random
import unittest

from odd_values import DEEP, ODD, with_changes
from some_boxes import box, some_load, some_ship

from tidewarden.loading import check_order, even_orders, is_even, order_paper
from tidewarden.ships import is_load

SIDES = ((1, 1, 4), (2, 2, 2), (3, 1, 2), (1, 3, 2), (4, 4, 1), (2, 3, 1))


def plain_level(ship, load, numbers):
    trim = sum(load[k][1][1] * (2 * load[k][0][0] - ship[0] + 1) for k in numbers)
    heel = sum(load[k][1][1] * (2 * load[k][0][1] - ship[1] + 1) for k in numbers)
    return abs(trim) <= ship[4] and abs(heel) <= ship[5]


def plain_stands(load, numbers, k):
    bay, row, tier = load[k][0]
    return tier == 0 or any(load[j][0] == (bay, row, tier - 1) for j in numbers)


def plain_even(ship, load, order):
    """The words of point 11.1, for a tuple of all numbers."""
    for many in range(len(order) + 1):
        loaded = order[:many]
        if not plain_level(ship, load, loaded) or not all(plain_stands(load, loaded, k) for k in loaded):
            return False
    return True


def plain_orders(ship, load):
    return [order for order in itertools.permutations(range(len(load))) if plain_even(ship, load, order)]


def plain_sets(ship, load, sets):
    """The words of point 11.2, for a tuple of tuples of integers."""
    everything = tuple(range(len(load)))
    if list(sets) != sorted(set(sets)) or () not in sets or everything in sets:
        return False
    for numbers in sets:
        if list(numbers) != sorted(set(numbers)) or not set(numbers) <= set(everything):
            return False
        for k in set(everything) - set(numbers):
            if plain_stands(load, numbers, k):
                larger = tuple(sorted(numbers + (k,)))
                if larger not in sets and plain_level(ship, load, larger):
                    return False
    return True


def closure(ship, load, sets):
    found, queue = set(sets), list(sets)
    while queue:
        numbers = queue.pop()
        for k in set(range(len(load))) - set(numbers):
            larger = tuple(sorted(numbers + (k,)))
            if plain_stands(load, numbers, k) and plain_level(ship, load, larger) and larger not in found:
                found.add(larger)
                queue.append(larger)
    return tuple(sorted(found))


def some_cases(seed, many, most=5):
    rng = random.Random(seed)
    for _ in range(many):
        ship = some_ship(rng, SIDES, (0, 1, 2, 3, 5, 8))
        load = some_load(rng, ship, rng.randint(0, most))
        if rng.random() < 0.6:
            # Piles without gaps, as they have even orders more often.
            piles = {}
            for (bay, row, _), other in load:
                piles.setdefault((bay, row), []).append(other)
            load = tuple(((*place, t), other) for place in sorted(piles) for t, other in enumerate(piles[place]))
        yield ship, load


# Two boxes at each end of two bays, of which the left ones are one upon the other.
SHIP = (2, 1, 2, (), 3, 0)
LOAD = (((0, 0, 0), box(1, 3)), ((0, 0, 1), box(2, 2)), ((1, 0, 0), box(3, 3)))


class IsEvenTest(unittest.TestCase):
    def test_step_by_step(self):
        right = {order for order in itertools.permutations(range(3)) if is_even(SHIP, LOAD, order)}
        self.assertEqual(right, {(0, 2, 1), (2, 0, 1)})
        self.assertIs(is_even(SHIP[:4] + (5, 0), LOAD, (0, 1, 2)), True)
        self.assertIs(is_even(SHIP[:4] + (4, 0), LOAD, (0, 1, 2)), False)
        # The box 1 is not beneath the box 2 yet, although the ship would be level.
        self.assertIs(is_even(SHIP[:4] + (99, 0), LOAD, (1, 0, 2)), False)

    def test_trim_and_heel_on_the_way(self):
        for weight in (2, 3, 4, 5):
            for first, second in [((0, 0, 0), (1, 0, 0)), ((0, 0, 0), (0, 1, 0))]:
                load = ((first, box(1, weight)), (second, box(2, weight)))
                for limit in (0, 2, 3, 4, 5):
                    trim, heel = (limit, 0) if second[0] else (0, limit)
                    bays, rows = (2, 1) if second[0] else (1, 2)
                    ship = (bays, rows, 1, (), trim, heel)
                    for order in [(0, 1), (1, 0)]:
                        self.assertIs(is_even(ship, load, order), weight <= limit)
                    self.assertIs(is_even(ship, load[:1], (0,)), weight <= limit)
                    self.assertIs(is_even(ship, load[1:], (0,)), weight <= limit)

    def test_at_the_end(self):
        ship = (2, 1, 2, (), 4, 0)
        self.assertIs(is_even(ship, (((0, 0, 0), box(1, 3)), ((0, 0, 1), box(2, 1))), (0, 1)), True)
        self.assertIs(is_even(ship, (((0, 0, 0), box(1, 3)), ((0, 0, 1), box(2, 2))), (0, 1)), False)

    def test_floating_box(self):
        load = (((0, 0, 0), box(1)), ((0, 0, 2), box(2)))
        ship = (1, 1, 3, (), 99, 99)
        for order in itertools.permutations(range(2)):
            self.assertIs(is_even(ship, load, order), False)
        self.assertEqual(even_orders(ship, load), 0)
        self.assertEqual(even_orders(ship, (((0, 0, 1), box(1)),)), 0)

    def test_no_orders(self):
        for order in [
                (0, 2), (0, 2, 1, 1), (0, 0, 2), (0, 2, 2), (0, 2, 3), (-1, 0, 2), (0, 2, -2), (0, 2, 1, 3), (), (0,),
                [0, 2, 1], (0, 2, True), (False, 2, 1), (0, 2.0, 1), (0, "2", 1), (0, None, 1), ((0, 2, 1),), "021"]:
            self.assertIs(is_even(SHIP, LOAD, order), False, order)
        for value in ODD + DEEP:
            self.assertIs(is_even(SHIP, LOAD, value), False)
        for value in with_changes((0, 2, 1)):
            self.assertIs(is_even(SHIP, LOAD, value), False)

    def test_empty_load(self):
        self.assertIs(is_even((1, 1, 1, (), 0, 0), (), ()), True)
        self.assertEqual(even_orders((1, 1, 1, (), 0, 0), ()), 1)
        self.assertEqual(order_paper((1, 1, 1, (), 0, 0), ()), ("order", ()))
        for value in ODD:
            self.assertIs(is_even(SHIP, (), value), type(value) is tuple and len(value) == 0)

    def test_all_orders(self):
        for ship, load in some_cases(1, 300):
            self.assertTrue(is_load(ship, load))
            for order in itertools.permutations(range(len(load))):
                self.assertIs(is_even(ship, load, order), plain_even(ship, load, order))


class OrderPaperTest(unittest.TestCase):
    def test_some_cases(self):
        seen = {"order": 0, "none": 0}
        for ship, load in some_cases(2, 500):
            orders = plain_orders(ship, load)
            self.assertEqual(even_orders(ship, load), len(orders))
            paper = order_paper(ship, load)
            self.assertIs(type(paper), tuple)
            self.assertEqual(len(paper), 2)
            seen[paper[0]] += 1
            if orders:
                self.assertEqual(paper[0], "order")
                self.assertIn(paper[1], orders)
            else:
                self.assertEqual(paper[0], "none")
                self.assertTrue(plain_sets(ship, load, paper[1]))
                self.assertTrue(all(type(k) is int for numbers in paper[1] for k in numbers))
            self.assertIs(check_order(ship, load, paper), True)
        self.assertGreater(min(seen.values()), 100)

    def test_sizes_end_soon(self):
        rng = random.Random(3)
        for limit in (0, 3, 6, 100):
            ship = (4, 2, 1, (), limit, limit)
            load = tuple(some_load(rng, ship, 7))
            self.assertEqual(even_orders(ship, load), len(plain_orders(ship, load)))
            self.assertIs(check_order(ship, load, order_paper(ship, load)), True)
        self.assertEqual(even_orders(ship, load), 5040)


class CheckOrderTest(unittest.TestCase):
    def test_orders(self):
        for ship, load in some_cases(4, 150, 4):
            for order in itertools.permutations(range(len(load))):
                self.assertIs(check_order(ship, load, ("order", order)), plain_even(ship, load, order))
        for order in [[0, 2, 1], (0, 2), (0, 2, 1, 1), (0, 2, True), (), ((0, 2, 1),)]:
            self.assertIs(check_order(SHIP, LOAD, ("order", order)), False)
        self.assertIs(check_order(SHIP, LOAD, ("order", (0, 2, 1))), True)
        self.assertIs(check_order(SHIP, LOAD, ("none", (0, 2, 1))), False)

    def test_larger_families(self):
        rng = random.Random(5)
        seen = larger = 0
        for ship, load in some_cases(6, 300, 4):
            everything = tuple(range(len(load)))
            subsets = [part for many in range(len(load)) for part in itertools.combinations(everything, many)]
            for _ in range(4):
                sets = closure(ship, load, [()] + rng.sample(subsets, min(2, len(subsets))))
                right = plain_sets(ship, load, sets)
                self.assertIs(check_order(ship, load, ("none", sets)), right, sets)
                seen += right
                larger += right and sets != order_paper(ship, load)[1]
        self.assertGreater(seen, 100)
        self.assertGreater(larger, 50)

    def test_changed_families(self):
        rng = random.Random(7)
        taken = refused = 0
        for ship, load in some_cases(8, 250, 4):
            paper = order_paper(ship, load)
            sets = paper[1] if paper[0] == "none" else closure(ship, load, [()])
            everything = tuple(range(len(load)))
            others = [sets[::-1], sets + sets[-1:], tuple(sorted(sets + (everything,))), sets[1:], ()]
            others += [sets[:k] + sets[k + 1:] for k in range(len(sets))]
            for _ in range(5):
                part = tuple(rng.sample(range(-1, len(load) + 1), rng.randint(0, len(load))))
                others.append(tuple(sorted(sets + (part,))))
                others.append(tuple(sorted(sets + (tuple(sorted(part)),))))
            for other in others:
                right = plain_sets(ship, load, other)
                self.assertIs(check_order(ship, load, ("none", other)), right, (ship, load, other))
                taken += right
                refused += not right
        self.assertGreater(taken, 100)
        self.assertGreater(refused, 1000)

    def test_refused_families(self):
        ship, load = (2, 1, 1, (), 2, 0), (((0, 0, 0), box(1, 2)), ((1, 0, 0), box(2, 5)))
        self.assertIs(check_order(ship, load, ("none", ((), (0,)))), True)
        self.assertIs(check_order(ship, load, ("none", ((), (0,), (1,)))), True)
        for sets in [
                ((), (0,), (0, 1)), ((),), ((0,),), ((0,), ()), ((), (0,), (0,)), ((), (), (0,)), ((), (0, 0)),
                ((), (0,), (2,)), ((), (-1,), (0,)), ((), (0,), (0, 0)), ((), (0,), (1, 0)), [(), (0,)], ((), [0]),
                ((), (True,)), ((), (False,)), ((), (0.0,)), ((), (0,), None), (None, (), (0,)), ((), ((0,),)), (), (0,)]:
            self.assertIs(check_order(ship, load, ("none", sets)), False, sets)
        self.assertIs(check_order((1, 1, 1, (), 0, 0), (), ("none", ((),))), False)
        self.assertIs(check_order((1, 1, 1, (), 0, 0), (), ("none", ())), False)

    def test_a_set_beyond_its_limit_may_stand_there(self):
        ship, load = (2, 1, 1, (), 2, 0), (((0, 0, 0), box(1, 2)), ((1, 0, 0), box(2, 5)))
        tight = (2, 1, 1, (), 1, 0)
        self.assertIs(check_order(tight, load, ("none", ((),))), True)
        self.assertIs(check_order(tight, load, ("none", ((), (0,)))), True)
        self.assertIs(check_order(tight, load, ("none", ((), (1,)))), True)
        self.assertIs(check_order(ship, load, ("none", ((), (1,)))), False)

    def test_other_values(self):
        ship, load = (2, 1, 1, (), 2, 0), (((0, 0, 0), box(1, 2)), ((1, 0, 0), box(2, 5)))
        paper = order_paper(ship, load)
        self.assertEqual(paper, ("none", ((), (0,))))
        for value in with_changes(paper):
            self.assertIs(check_order(ship, load, value), repr(value) == repr(paper), value)
        for value in with_changes(order_paper(SHIP, LOAD)):
            self.assertIs(check_order(SHIP, LOAD, value), False, value)
        for value in ODD + DEEP:
            self.assertIs(check_order(ship, load, value), False)
            self.assertIs(check_order(ship, load, ("none", value)), False)
            self.assertIs(check_order(ship, load, ("none", ((), value))), False)
            self.assertIs(check_order(ship, load, ("order", value)), False)
            self.assertIs(check_order(ship, load, (value, ((), (0,)))), False)
        for value in [["none", ((), (0,))], ("none", ((), (0,)), ()), ("none",), ("orders", (0, 1)), ("never", ((), (0,)))]:
            self.assertIs(check_order(ship, load, value), False)


if __name__ == "__main__":
    unittest.main()
