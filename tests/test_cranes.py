import itertools
import random
import unittest

from odd_values import ODD, with_changes

from tidewarden.cranes import best_share, check_cranes, crane_paper, crane_ticks, is_share, loads


def all_shares(works, cranes):
    for inner in itertools.combinations_with_replacement(range(len(works) + 1), cranes - 1):
        yield (0,) + inner + (len(works),)


def greatest(works, share):
    return max(sum(works[a:b]) for a, b in zip(share, share[1:]))


def plain_right(works, cranes, share, bays):
    """The words of point 5.3, for a share and a tuple of integers."""
    if share not in set(all_shares(works, cranes)):
        return False
    if list(bays) != sorted(set(bays)) or not set(bays) <= set(range(len(works))):
        return False
    most = greatest(works, share)
    if len(bays) == 1 and works[bays[0]] >= most:
        return True
    return len(bays) == cranes + 1 and all(sum(works[a:b + 1]) >= most for a, b in zip(bays, bays[1:]))


def some_works(seed, many):
    rng = random.Random(seed)
    for _ in range(many):
        most = rng.choice((1, 3, 10, 100))
        yield tuple(rng.randint(0, most) for _ in range(rng.randint(1, 7))), rng.randint(1, 6)


class IsShareTest(unittest.TestCase):
    def test_shares(self):
        for cranes, value in [
                (1, (0, 3)), (2, (0, 1, 3)), (2, (0, 0, 3)), (2, (0, 3, 3)), (4, (0, 0, 3, 3, 3)),
                (6, (0, 0, 1, 2, 3, 3, 3))]:
            self.assertIs(is_share((3, 1, 2), cranes, value), True, value)

    def test_no_shares(self):
        for value in [
                (0, 3), (0, 1, 2, 3), (0, 1, 2), (1, 2, 3), (0, 4, 3), (0, -1, 3), (0, 1, 4), (-1, 1, 3),
                (3, 2, 0), (0, True, 3), (False, 1, 3), (0, 1.0, 3), (0, "1", 3), (0, None, 3), [0, 1, 3],
                ((0, 1, 3),), (), (0,)]:
            self.assertIs(is_share((3, 1, 2), 2, value), False, value)
        self.assertIs(is_share((3, 1, 2), 3, (0, 2, 1, 3)), False)

    def test_any_value(self):
        for value in ODD:
            self.assertIs(is_share((3, 1, 2), 2, value), False)

    def test_all_small_ones(self):
        works = (3, 1, 2)
        for cranes in (1, 2, 3):
            shares = set(all_shares(works, cranes))
            for size in range(5):
                for value in itertools.product(range(-1, 5), repeat=size):
                    self.assertIs(is_share(works, cranes, value), value in shares)

    def test_loads(self):
        self.assertEqual(loads((3, 1, 2), (0, 1, 3)), [3, 3])
        self.assertEqual(loads((3, 1, 2), (0, 0, 3, 3)), [0, 6, 0])
        self.assertEqual(loads((0,), (0, 1)), [0])


class BestShareTest(unittest.TestCase):
    def check(self, works, cranes):
        wanted = min(all_shares(works, cranes), key=lambda share: (greatest(works, share), share))
        self.assertEqual(best_share(works, cranes), wanted, (works, cranes))

    def test_examples(self):
        self.assertEqual(best_share((3, 1, 2), 2), (0, 1, 3))
        self.assertEqual(best_share((0, 0), 2), (0, 0, 2))
        self.assertEqual(best_share((5, 5, 5), 2), (0, 1, 3))
        self.assertEqual(best_share((5,), 3), (0, 0, 0, 1))
        self.assertIs(type(best_share((5,), 3)), tuple)

    def test_all_small_ones(self):
        for size in range(1, 5):
            for works in itertools.product((0, 1, 3), repeat=size):
                for cranes in range(1, 6):
                    self.check(works, cranes)

    def test_others(self):
        for works, cranes in some_works(1, 200):
            self.check(works, cranes)

    def test_greatest_size_ends_soon(self):
        works = (7, 100, 3, 55, 0, 42, 99, 1, 13, 64, 28, 90)
        for cranes in range(1, 7):
            self.check(works, cranes)
        self.assertEqual(best_share((100,) * 12, 6), (0, 2, 4, 6, 8, 10, 12))


class PaperTest(unittest.TestCase):
    def test_right_by_the_words(self):
        for works, cranes in some_works(2, 400):
            share, bays = crane_paper(works, cranes)
            self.assertTrue(plain_right(works, cranes, share, bays), (works, cranes, share, bays))
            self.assertEqual(
                greatest(works, share), min(greatest(works, other) for other in all_shares(works, cranes)))
            self.assertIs(type(crane_paper(works, cranes)), tuple)
            self.assertIs(type(bays), tuple)
            self.assertIs(check_cranes(works, cranes, (share, bays)), True)

    def test_all_works_zero(self):
        share, bays = crane_paper((0, 0, 0), 2)
        self.assertTrue(plain_right((0, 0, 0), 2, share, bays))

    def test_takes_and_refuses_by_the_words(self):
        for works in [(3, 1, 2), (2, 2, 2, 2), (0, 5, 0), (1, 4, 1), (0, 0), (6,), (2, 1, 3, 2)]:
            for cranes in (1, 2, 3):
                for share in list(all_shares(works, cranes)) + [(0,) * (cranes + 1), (0, len(works))]:
                    for size in range(5):
                        for bays in itertools.product(range(-1, len(works) + 1), repeat=size):
                            self.assertIs(
                                check_cranes(works, cranes, (share, bays)),
                                plain_right(works, cranes, share, bays), (works, cranes, share, bays))

    def test_two_forms(self):
        self.assertIs(check_cranes((4, 1, 2), 2, ((0, 1, 3), (0,))), True)
        self.assertIs(check_cranes((4, 1, 2), 2, ((0, 1, 3), (1,))), False)
        self.assertIs(check_cranes((2, 2, 2), 2, ((0, 1, 3), (0, 1, 2))), True)
        self.assertIs(check_cranes((2, 2, 2), 2, ((0, 2, 3), (0, 1, 2))), True)
        self.assertIs(check_cranes((2, 2, 2), 2, ((0, 3, 3), (0, 1, 2))), False)
        self.assertIs(check_cranes((2, 2, 2), 2, ((0, 1, 3), (0, 2, 1))), False)
        self.assertIs(check_cranes((2, 2, 2), 2, ((0, 1, 3), (0, 1))), False)
        self.assertIs(check_cranes((2, 2, 2), 2, ((0, 1, 3), (0, 1, 2, 3))), False)
        self.assertIs(check_cranes((2, 2, 2), 2, ((0, 1, 3), (-3, -2, -1))), False)

    def test_other_values(self):
        paper = ((0, 1, 3), (0, 1, 2))
        for value in ODD:
            self.assertIs(check_cranes((2, 2, 2), 2, value), False)
            self.assertIs(check_cranes((2, 2, 2), 2, (paper[0], value)), False)
            self.assertIs(check_cranes((2, 2, 2), 2, (value, paper[1])), False)
        for value in with_changes(paper):
            self.assertIs(check_cranes((2, 2, 2), 2, value), False, value)
        for value in [
                ((0, True, 3), (0, 1, 2)), ((0, 1, 3), (0, True, 2)), ((0, 1, 3), (False, 1, 2)),
                ([0, 1, 3], (0, 1, 2)), ((0, 1, 3), [0, 1, 2]), [(0, 1, 3), (0, 1, 2)]]:
            self.assertIs(check_cranes((2, 2, 2), 2, value), False)


class CraneTicksTest(unittest.TestCase):
    def test_examples(self):
        self.assertEqual(crane_ticks((2, 1), (0, 1, 2)), [(0, 1), (0, None)])
        self.assertEqual(crane_ticks((0, 0), (0, 1, 2)), [])
        self.assertEqual(crane_ticks((1, 0, 2), (0, 3)), [(0,), (2,), (2,)])
        self.assertEqual(crane_ticks((1, 0, 2), (0, 0, 3, 3)), [(None, 0, None), (None, 2, None), (None, 2, None)])
        self.assertEqual(crane_ticks((0, 2, 1, 0), (0, 1, 4)), [(None, 1), (None, 1), (None, 2)])

    def test_by_the_words(self):
        for works, cranes in some_works(3, 100):
            share = best_share(works, cranes)
            rows = crane_ticks(works, share)
            self.assertEqual(len(rows), max(loads(works, share)))
            self.assertTrue(all(type(row) is tuple and len(row) == cranes for row in rows))
            for i in range(cranes):
                done = [row[i] for row in rows]
                wanted = [bay for bay in range(share[i], share[i + 1]) for _ in range(works[bay])]
                self.assertEqual(done, wanted + [None] * (len(rows) - len(wanted)))


if __name__ == "__main__":
    unittest.main()
