import itertools
import random
import unittest

from odd_values import DEEP, ODD, with_changes

from tidewarden.trucks import check_gate, first_appointment, gate_paper, is_appointment, most_trucks


def plain_appointments(room, wishes):
    for given in itertools.product(*[hours + (None,) for hours in wishes]):
        if all(given.count(hour) <= room[hour] for hour in range(len(room))):
            yield given


def plain_served(given):
    return len(given) - given.count(None)


def plain_right(room, wishes, given, hours):
    """The words of point 12.2, for an appointment and a tuple of integers."""
    if list(hours) != sorted(set(hours)) or not set(hours) <= set(range(len(room))):
        return False
    others = [truck for truck in wishes if set(truck) - set(hours)]
    return plain_served(given) == sum(room[hour] for hour in hours) + len(others)


def behind(given):
    """The key by which None counts as an hour behind all hours."""
    return tuple(99 if hour is None else hour for hour in given)


def some_cases(seed, many, most=4, hours=3):
    rng = random.Random(seed)
    for _ in range(many):
        room = tuple(rng.choice((0, 0, 1, 1, 1, 2, 9)) for _ in range(rng.randint(1, hours)))
        wishes = []
        for _ in range(rng.randint(0, most)):
            wishes.append(tuple(hour for hour in range(len(room)) if rng.random() < 0.5))
        yield room, tuple(wishes)


ROOM = (1, 0, 2)
WISHES = ((0, 2), (0,), (), (1, 2), (1,))


class IsAppointmentTest(unittest.TestCase):
    def test_appointments(self):
        for given in [(0, None, None, None, None), (None,) * 5, (2, 0, None, 2, None), (None, 0, None, 2, None)]:
            self.assertIs(is_appointment(ROOM, WISHES, given), True, given)

    def test_hours_that_are_not_wished(self):
        for given in [
                (1, None, None, None, None), (None, 2, None, None, None), (None, None, 0, None, None),
                (None, None, None, 0, None), (3, None, None, None, None), (-1, None, None, None, None)]:
            self.assertIs(is_appointment((9, 9, 9), WISHES, given), False, given)

    def test_room(self):
        for given in [(0, 0, None, None, None), (None, None, None, 1, None), (None, None, None, None, 1)]:
            self.assertIs(is_appointment(ROOM, WISHES, given), False, given)
            self.assertIs(is_appointment((2, 1, 2), WISHES, given), True, given)
        wishes = ((0,),) * 5
        for many in range(6):
            for room in range(6):
                given = (0,) * many + (None,) * (5 - many)
                self.assertIs(is_appointment((room,), wishes, given), many <= room)

    def test_forms(self):
        for value in [
                (None,) * 4, (None,) * 6, [None] * 5, (False, None, None, None, None), (0.0, None, None, None, None),
                ("0", None, None, None, None), ((0,), None, None, None, None), (2, False, None, 2, None)]:
            self.assertIs(is_appointment(ROOM, WISHES, value), False, value)
        self.assertIs(is_appointment((9, 9, 9), ((1,),), (True,)), False)
        for value in ODD + DEEP:
            self.assertIs(is_appointment(ROOM, WISHES, value), False)
            self.assertIs(is_appointment(ROOM, ((0, 2),), (value,)), value is None)
        right = {repr(given) for given in plain_appointments(ROOM, WISHES)}
        for value in with_changes((2, 0, None, 2, None)):
            self.assertIs(is_appointment(ROOM, WISHES, value), repr(value) in right, value)

    def test_no_trucks(self):
        for value in ODD:
            self.assertIs(is_appointment(ROOM, (), value), type(value) is tuple and len(value) == 0)

    def test_all_small_ones(self):
        for room, wishes in some_cases(1, 100):
            right = set(plain_appointments(room, wishes))
            for given in itertools.product([None, *range(-1, len(room) + 1)], repeat=len(wishes)):
                self.assertIs(is_appointment(room, wishes, given), given in right)


class GatePaperTest(unittest.TestCase):
    def test_told_ones(self):
        self.assertEqual(gate_paper((3,), ()), ((), ()))
        self.assertEqual(most_trucks((3,), ()), 0)
        self.assertEqual(gate_paper((3,), ((), ())), ((None, None), ()))
        self.assertEqual(most_trucks((0,), ((0,), (0,))), 0)
        self.assertEqual(gate_paper((0,), ((0,), (0,))), ((None, None), (0,)))
        self.assertEqual(most_trucks(ROOM, WISHES), 3)
        self.assertEqual(most_trucks((1, 1, 1), ((0, 1), (0, 2), (0,))), 3)

    def test_some_cases(self):
        for room, wishes in some_cases(2, 600):
            best = max(plain_served(given) for given in plain_appointments(room, wishes))
            self.assertEqual(most_trucks(room, wishes), best)
            paper = gate_paper(room, wishes)
            self.assertIs(type(paper), tuple)
            given, hours = paper
            self.assertIs(type(given), tuple)
            self.assertIs(type(hours), tuple)
            self.assertIn(given, set(plain_appointments(room, wishes)))
            self.assertEqual(plain_served(given), best)
            self.assertTrue(plain_right(room, wishes, given, hours))
            self.assertIs(check_gate(room, wishes, paper), True)

    def test_sizes_end_soon(self):
        rng = random.Random(3)
        for wished in (2, 3, 5, 10):
            for _ in range(15):
                room = tuple(rng.choice((0, 1, 1, 2, 9)) for _ in range(10))
                wishes = tuple(tuple(sorted(rng.sample(range(10), wished))) for _ in range(12))
                paper = gate_paper(room, wishes)
                self.assertIs(check_gate(room, wishes, paper), True)
                self.assertEqual(most_trucks(room, wishes), plain_served(paper[0]))
                first = first_appointment(room, wishes)
                self.assertIs(is_appointment(room, wishes, first), True)
                self.assertEqual(plain_served(first), most_trucks(room, wishes))


class CheckGateTest(unittest.TestCase):
    def test_all_pairs_of_small_ones(self):
        taken = 0
        for room, wishes in some_cases(4, 120):
            for given in plain_appointments(room, wishes):
                for many in range(len(room) + 1):
                    for hours in itertools.combinations(range(len(room)), many):
                        right = plain_right(room, wishes, given, hours)
                        self.assertIs(check_gate(room, wishes, (given, hours)), right)
                        taken += right
        self.assertGreater(taken, 300)

    def test_fewer(self):
        for room, wishes in some_cases(5, 200):
            given, hours = gate_paper(room, wishes)
            for k in range(len(given)):
                if given[k] is not None:
                    self.assertIs(check_gate(room, wishes, (given[:k] + (None,) + given[k + 1:], hours)), False)

    def test_no_appointment(self):
        # The number would be right.
        self.assertIs(check_gate((1, 1), ((0,), (1,)), ((0, 1), ())), True)
        self.assertIs(check_gate((1, 1), ((0,), (1,)), ((1, 0), ())), False)
        self.assertIs(check_gate((1, 1), ((0,), (0,)), ((0, 0), ())), False)
        self.assertIs(check_gate((1, 1), ((0,), (1,)), ((0, True), ())), False)
        self.assertIs(check_gate((1, 1), ((0,), (1,)), ([0, 1], ())), False)
        self.assertIs(check_gate((1, 1), ((0,), (1,)), ((0, 1, None), ())), False)

    def test_hours(self):
        room, wishes = (1, 1, 0), ((0,), (0, 1), (0, 1))
        self.assertIs(check_gate(room, wishes, ((None, 0, 1), (0, 1))), True)
        self.assertIs(check_gate(room, wishes, ((None, 0, 1), (0, 1, 2))), True)
        for hours in [
                (1, 0), (0, 0, 1), (0, 1, 1), (0, 1, 3), (-1, 0, 1), (-2, 0), (0,), (1,), (), (0, 2), [0, 1], (0, True),
                (False, 1), (0, 1.0), (0, "1"), (0, None), ((0, 1),), None, 2, {0: 1, 1: 1}, (0, -2), (-3, -2)]:
            self.assertIs(check_gate(room, wishes, ((None, 0, 1), hours)), False, hours)

    def test_other_values(self):
        paper = gate_paper(ROOM, WISHES)
        subsets = [(), (0,), (1,), (2,), (0, 1), (0, 2), (1, 2), (0, 1, 2)]
        right = {
            repr((given, hours)) for given in plain_appointments(ROOM, WISHES) for hours in subsets
            if plain_right(ROOM, WISHES, given, hours)}
        self.assertIn(repr(paper), right)
        for value in with_changes(paper):
            self.assertIs(check_gate(ROOM, WISHES, value), repr(value) in right, value)
        for value in ODD + DEEP:
            self.assertIs(check_gate(ROOM, WISHES, value), False)
            self.assertIs(check_gate(ROOM, WISHES, (value, paper[1])), False)
            self.assertIs(check_gate(ROOM, WISHES, (paper[0], value)), False)
        for value in [list(paper), paper + ((),), paper[:1], paper[::-1]]:
            self.assertIs(check_gate(ROOM, WISHES, value), False)


class FirstAppointmentTest(unittest.TestCase):
    def test_told_ones(self):
        self.assertEqual(first_appointment((1,), ()), ())
        self.assertEqual(first_appointment((1,), ((0,), (0,))), (0, None))
        self.assertEqual(first_appointment((1, 1), ((0, 1), (0, 1))), (0, 1))
        self.assertEqual(first_appointment((1, 1), ((0, 1), (0,))), (1, 0))
        self.assertEqual(first_appointment((0, 1), ((0, 1), (1,))), (1, None))
        self.assertEqual(first_appointment((0,), ((0,), ())), (None, None))
        self.assertEqual(first_appointment(ROOM, WISHES), (2, 0, None, 2, None))

    def test_some_cases(self):
        for room, wishes in some_cases(6, 600):
            appointments = list(plain_appointments(room, wishes))
            best = max(map(plain_served, appointments))
            first = min([given for given in appointments if plain_served(given) == best], key=behind)
            self.assertEqual(first_appointment(room, wishes), first)
            self.assertIs(type(first_appointment(room, wishes)), tuple)

    def test_more_hours(self):
        for room, wishes in some_cases(7, 100, 5, 4):
            appointments = list(plain_appointments(room, wishes))
            best = max(map(plain_served, appointments))
            first = min([given for given in appointments if plain_served(given) == best], key=behind)
            self.assertEqual(first_appointment(room, wishes), first)
            self.assertEqual(most_trucks(room, wishes), best)


if __name__ == "__main__":
    unittest.main()
