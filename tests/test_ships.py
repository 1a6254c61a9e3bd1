import itertools
import random
import unittest

from odd_values import DEEP, ODD, with_changes
from some_boxes import TABLES, box, code, plain_faults, some_load, some_ship

from tidewarden.boxes import is_box, is_distances
from tidewarden.ships import is_load, is_ship, load_faults, moments, slots_of

SHIP = (2, 3, 2, ((0, 0, 0), (0, 2, 1), (1, 1, 0)), 4, 0)
LOAD = (((0, 0, 0), box(1, 4, "cold", 2)), ((0, 0, 1), box(2, 3, "d1", 1)), ((1, 2, 0), box(3, 40, "d2", 9)))
WIDE = (4, 4, 4, (), 1000, 1000)


class IsShipTest(unittest.TestCase):
    def test_sides(self):
        for sides in itertools.product((1, 2, 3, 4), repeat=3):
            self.assertIs(is_ship(sides + ((), 0, 0)), True)
        for k in range(3):
            for side in (0, -1, 5, 100, True, 1.0, "1", None, (1,)):
                sides = [2, 2, 2]
                sides[k] = side
                self.assertIs(is_ship((*sides, (), 0, 0)), False, sides)

    def test_limits(self):
        for limit in (0, 1, 7, 10 ** 30):
            self.assertIs(is_ship((1, 1, 1, (), limit, 0)), True)
            self.assertIs(is_ship((1, 1, 1, (), 0, limit)), True)
        for limit in (-1, -7, True, False, 0.0, "0", None, ()):
            self.assertIs(is_ship((1, 1, 1, (), limit, 0)), False)
            self.assertIs(is_ship((1, 1, 1, (), 0, limit)), False)

    def test_plugs(self):
        sides = (2, 3, 4)
        slots = [(b, r, t) for b in range(2) for r in range(3) for t in range(4)]
        for plugs in [(), tuple(slots), tuple(slots[3:9]), ((1, 2, 3),), ((0, 0, 0), (1, 2, 3))]:
            self.assertIs(is_ship(sides + (plugs, 0, 0)), True, plugs)
        for plug in [
                (2, 0, 0), (0, 3, 0), (0, 0, 4), (-1, 0, 0), (0, -1, 0), (0, 0, -1), (0, 0), (0, 0, 0, 0), (),
                [0, 0, 0], (True, 0, 0), (0, False, 0), (0, 0, 0.0), ("0", 0, 0), (None, 0, 0), 0, None, "abc"]:
            self.assertIs(is_ship(sides + ((plug,), 0, 0)), False, plug)
            self.assertIs(is_ship(sides + (((0, 0, 1), plug), 0, 0)), False, plug)
        for plugs in [
                ((0, 0, 1), (0, 0, 0)), ((0, 0, 1), (0, 0, 1)), ((0, 1, 0), (0, 0, 1)), ((1, 0, 0), (0, 2, 3)),
                ((0, 0, 0), (1, 0, 0), (0, 1, 0)), [], [(0, 0, 0)], (0, 0, 0), None, 0, {(0, 0, 0)}]:
            self.assertIs(is_ship(sides + (plugs, 0, 0)), False, plugs)

    def test_forms(self):
        self.assertIs(is_ship(SHIP), True)
        for value in [list(SHIP), SHIP[:5], SHIP + (0,), SHIP[1:], (SHIP,), ()]:
            self.assertIs(is_ship(value), False, value)
        for value in ODD:
            self.assertIs(is_ship(value), False)
            for k in (0, 1, 2):
                self.assertIs(is_ship(SHIP[:k] + (value,) + SHIP[k + 1:]), False)
        for value in DEEP:
            self.assertIs(is_ship(SHIP[:3] + (value, 0, 0)), False)
        fewer = [()] + [SHIP[3][:k] + SHIP[3][k + 1:] for k in range(3)]
        kept = [repr(SHIP[:3] + (plugs,) + SHIP[4:]) for plugs in fewer]
        for value in with_changes(SHIP):
            self.assertIs(is_ship(value), repr(value) in kept, value)

    def test_slots_of(self):
        self.assertEqual(slots_of((1, 1, 1, (), 0, 0)), [(0, 0, 0)])
        self.assertEqual(
            slots_of((2, 1, 2, ((0, 0, 1),), 0, 0)), [(0, 0, 0), (0, 0, 1), (1, 0, 0), (1, 0, 1)])
        for sides in itertools.product((1, 2, 3, 4), repeat=3):
            slots = slots_of(sides + ((), 0, 0))
            self.assertEqual(slots, sorted(set(slots)))
            self.assertEqual(len(slots), sides[0] * sides[1] * sides[2])
            self.assertEqual(slots[0], (0, 0, 0))
            self.assertEqual(tuple(max(slot[k] for slot in slots) + 1 for k in range(3)), sides)
            self.assertTrue(all(type(slot) is tuple for slot in slots))


class IsLoadTest(unittest.TestCase):
    def test_loads(self):
        for load in [(), LOAD, LOAD[1:], LOAD[:1], (((1, 2, 1), box(1)),)]:
            self.assertIs(is_load(SHIP, load), True)

    def test_slots(self):
        for slot in [
                (2, 0, 0), (0, 3, 0), (0, 0, 2), (-1, 0, 0), (0, -1, 0), (0, 0, -1), (0, 0), (0, 0, 0, 0), [0, 0, 0],
                (True, 0, 0), (0, 0, 1.0), None, 0, "abc", ()]:
            self.assertIs(is_load(SHIP, ((slot, box(1)),)), False, slot)
        for one, two in itertools.product(slots_of(SHIP), repeat=2):
            self.assertIs(is_load(SHIP, ((one, box(1)), (two, box(2)))), one < two)

    def test_codes(self):
        first, second = (0, 0, 0), (1, 0, 0)
        self.assertIs(is_load(SHIP, ((first, box(1)), (second, box(2)))), True)
        self.assertIs(is_load(SHIP, ((first, box(1)), (second, box(1)))), False)
        self.assertIs(is_load(SHIP, ((first, box(1, 2, "cold", 3)), (second, box(1, 4, "d1", 5)))), False)

    def test_boxes(self):
        for other in [
                box(1)[:3], box(1) + (1,), list(box(1)), box(1, 0), box(1, 41), box(1, True), box(1, 1, "warm"),
                box(1, 1, "plain", 0), box(1, 1, "plain", 10), (code(1)[:10], 1, "plain", 1), None, (), code(1)]:
            self.assertIs(is_box(other), False)
            self.assertIs(is_load(SHIP, (((0, 0, 0), other),)), False)

    def test_forms(self):
        for value in [list(LOAD), (list(LOAD[0]),), LOAD[0], (LOAD,), (LOAD[0] + (1,),), (LOAD[0][:1],), dict(LOAD)]:
            self.assertIs(is_load(SHIP, value), False, value)
        for value in ODD:
            self.assertIs(is_load(SHIP, value), type(value) is tuple and value == ())
            self.assertIs(is_load(SHIP, (value,)), False)
            self.assertIs(is_load(SHIP, ((value, box(1)),)), False)
            self.assertIs(is_load(SHIP, (((0, 0, 0), value),)), False)
            self.assertIs(is_load(SHIP, LOAD + (value,)), False)
        left_out = [repr(LOAD[:k] + LOAD[k + 1:]) for k in range(3)]
        for value in with_changes(LOAD):
            self.assertIs(is_load(SHIP, value), repr(value) in left_out, value)


class MomentsTest(unittest.TestCase):
    def test_each_place(self):
        for bays, rows in itertools.product((1, 2, 3, 4), repeat=2):
            ship = (bays, rows, 2, (), 0, 0)
            for bay, row, tier in slots_of(ship):
                self.assertEqual(
                    moments(ship, (((bay, row, tier), box(1, 7)),)),
                    (7 * (bay - (bays - 1 - bay)), 7 * (row - (rows - 1 - row))))

    def test_told_ones(self):
        self.assertEqual(moments((4, 3, 1, (), 0, 0), ()), (0, 0))
        self.assertEqual(moments((4, 3, 1, (), 0, 0), (((0, 0, 0), box(1, 10)),)), (-30, -20))
        self.assertEqual(moments((4, 3, 1, (), 0, 0), (((3, 2, 0), box(1, 10)),)), (30, 20))
        self.assertEqual(moments((4, 3, 1, (), 0, 0), (((1, 1, 0), box(1, 10)),)), (-10, 0))
        self.assertEqual(
            moments((4, 3, 1, (), 0, 0), (((1, 1, 0), box(1, 10)), ((2, 0, 0), box(2, 3)), ((3, 2, 0), box(3, 2)))),
            (-10 + 3 + 6, 0 - 6 + 4))
        self.assertIs(type(moments(SHIP, LOAD)), tuple)


def faults(load, ship=WIDE, table=()):
    return load_faults(ship, table, tuple(sorted(load)))


class LoadFaultsTest(unittest.TestCase):
    def test_none(self):
        self.assertEqual(faults([]), [])
        self.assertEqual(faults([], (1, 1, 1, (), 0, 0)), [])
        self.assertEqual(faults([((0, 0, 0), box(1, 2)), ((0, 0, 1), box(2, 2)), ((0, 0, 2), box(3, 1))]), [])

    def test_floats(self):
        self.assertEqual(faults([((1, 1, 0), box(1))]), [])
        for tier in (1, 2, 3):
            self.assertEqual(faults([((1, 1, tier), box(1))]), [("floats", (1, 1, tier))])
            below = [((1, 1, t), box(t)) for t in range(tier)]
            self.assertEqual(faults(below + [((1, 1, tier), box(9))]), [])
            beside = [((1, 2, 0), box(11)), ((2, 1, 0), box(12))]
            self.assertEqual(faults(beside + [((1, 1, tier), box(9))]), [("floats", (1, 1, tier))])
        self.assertEqual(
            faults([((1, 1, 0), box(1)), ((1, 1, 2), box(2)), ((1, 1, 3), box(3))]), [("floats", (1, 1, 2))])

    def test_crushes_what_is_directly_below(self):
        for below, above in itertools.product((1, 2, 3), repeat=2):
            self.assertEqual(
                faults([((0, 0, 0), box(1, below)), ((0, 0, 1), box(2, above))]),
                [("crushes", (0, 0, 1))] if below < above else [])
        pile = [((0, 0, 0), box(1, 2)), ((0, 0, 1), box(2, 4)), ((0, 0, 2), box(3, 3))]
        self.assertEqual(faults(pile), [("crushes", (0, 0, 1))])
        self.assertEqual(faults([pile[0], pile[2]]), [("floats", (0, 0, 2))])
        self.assertEqual(faults([((0, 0, 0), box(1, 2)), ((0, 1, 0), box(2, 4)), ((1, 0, 0), box(3, 3))]), [])

    def test_covers_whatever_is_below(self):
        for below, above in itertools.product((1, 2, 3), repeat=2):
            for tier in (1, 2, 3):
                pile = [((0, 0, t), box(t, 1, "plain", 9)) for t in range(1, tier)]
                found = faults(
                    pile + [((0, 0, 0), box(10, 1, "plain", below)), ((0, 0, tier), box(11, 1, "plain", above))])
                self.assertEqual(("covers", (0, 0, tier)) in found, below < above)
                found = faults(
                    [((0, 0, 0), box(10, 1, "plain", below)), ((0, 0, tier), box(11, 1, "plain", above))])
                self.assertEqual(("covers", (0, 0, tier)) in found, below < above)
        for other in [(0, 1, 0), (1, 0, 0), (0, 0, 3)]:
            found = faults([((0, 0, 2), box(1, 1, "plain", 5)), (other, box(2, 1, "plain", 5 if other[2] else 1))])
            self.assertNotIn("covers", [fault[0] for fault in found])
        self.assertEqual(
            faults([((2, 3, 0), box(1, 1, "plain", 1)), ((2, 3, 2), box(2, 1, "plain", 2))]),
            [("floats", (2, 3, 2)), ("covers", (2, 3, 2))])

    def test_warm(self):
        ship = (2, 1, 1, ((1, 0, 0),), 99, 99)
        for kind in ("plain", "cold", "d1", "d9"):
            self.assertEqual(faults([((1, 0, 0), box(1, 1, kind))], ship), [])
            self.assertEqual(
                faults([((0, 0, 0), box(1, 1, kind))], ship), [("warm", (0, 0, 0))] if kind == "cold" else [])

    def test_near(self):
        for distance in (1, 2, 3, 4, 5):
            table = (("d1", "d2", distance), ("d3", "d3", distance))
            for other in slots_of(WIDE)[1:]:
                apart = max(other)
                for one, two in [("d1", "d2"), ("d2", "d1"), ("d3", "d3")]:
                    found = faults([((0, 0, 0), box(1, 1, one)), (other, box(2, 1, two))], WIDE, table)
                    self.assertEqual(("near", (0, 0, 0), other) in found, apart < distance)
                for one, two in [("d1", "d1"), ("d2", "d3"), ("plain", "d1"), ("cold", "plain"), ("d9", "d9")]:
                    found = faults([((0, 0, 0), box(1, 1, one)), (other, box(2, 1, two))], WIDE, table)
                    self.assertNotIn("near", [fault[0] for fault in found])

    def test_near_takes_the_greatest_of_the_differences(self):
        one, two = (3, 0, 0), (1, 1, 0)
        for distance in (1, 2, 3, 4, 5):
            table = (("d1", "d1", distance),)
            self.assertEqual(
                faults([(one, box(1, 1, "d1")), (two, box(2, 1, "d1"))], WIDE, table),
                [("near", two, one)] if distance > 2 else [])

    def test_near_for_each_later_one(self):
        load = [((0, 0, 0), box(1, 1, "d1")), ((0, 1, 0), box(2, 1, "d2")), ((0, 3, 0), box(3, 1, "d2")),
                ((1, 0, 0), box(4, 1, "d2"))]
        self.assertEqual(
            faults(load, WIDE, (("d1", "d2", 2), ("d2", "d2", 2))),
            [("near", (0, 0, 0), (0, 1, 0)), ("near", (0, 0, 0), (1, 0, 0)), ("near", (0, 1, 0), (1, 0, 0))])

    def test_trim_and_heel(self):
        for limit in (0, 3, 5):
            for weight in range(1, 8):
                for at, sign in [(0, -1), (1, 1)]:
                    for word, ship, slot in [
                            ("trim", (2, 1, 1, (), limit, 0), (at, 0, 0)),
                            ("heel", (1, 2, 1, (), 0, limit), (0, at, 0))]:
                        self.assertEqual(
                            faults([(slot, box(1, weight))], ship),
                            [(word, sign * weight)] if weight > limit else [])
        self.assertEqual(faults([((1, 0, 0), box(1, 5))], (2, 2, 1, (), 4, 4)), [("trim", 5), ("heel", -5)])
        self.assertEqual(faults([((0, 0, 0), box(1, 5)), ((1, 1, 0), box(2, 5))], (2, 2, 1, (), 0, 0)), [])

    def test_several_at_once(self):
        ship = (1, 2, 4, (), 0, 2)
        table = (("d1", "d1", 5),)
        load = (
            ((0, 0, 0), box(1, 1, "cold", 1)), ((0, 0, 1), box(2, 2, "d1", 2)), ((0, 0, 3), box(3, 3, "cold", 3)),
            ((0, 1, 2), box(4, 1, "d1", 1)))
        self.assertEqual(load_faults(ship, table, load), [
            ("warm", (0, 0, 0)), ("crushes", (0, 0, 1)), ("covers", (0, 0, 1)), ("near", (0, 0, 1), (0, 1, 2)),
            ("floats", (0, 0, 3)), ("covers", (0, 0, 3)), ("warm", (0, 0, 3)), ("floats", (0, 1, 2)), ("heel", -5)])

    def test_some_loads(self):
        rng = random.Random(9)
        sides = [(1, 1, 4), (2, 2, 2), (3, 2, 2), (1, 3, 3), (4, 4, 1), (4, 4, 4)]
        words = set()
        for _ in range(1500):
            ship = some_ship(rng, sides, (0, 1, 2, 5, 100))
            load = some_load(rng, ship, rng.randint(0, 9))
            table = rng.choice(TABLES)
            self.assertTrue(is_ship(ship) and is_load(ship, load) and is_distances(table))
            found = load_faults(ship, table, load)
            self.assertEqual(found, plain_faults(ship, table, load))
            words |= {fault[0] for fault in found}
        self.assertEqual(words, {"floats", "crushes", "covers", "warm", "near", "trim", "heel"})

    def test_beyond_the_limits(self):
        ship = (5, 1, 6, (), 0, 0)
        load = tuple(((0, 0, t), box(t, 50 - t)) for t in range(6)) + tuple(((4, 0, t), box(9 + t, 45)) for t in range(6))
        self.assertEqual(load_faults(ship, (), load), [("trim", 4 * (6 * 45 - sum(range(45, 51))))])


if __name__ == "__main__":
    unittest.main()
