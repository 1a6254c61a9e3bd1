import itertools
import random
import unittest

from odd_values import ODD, with_changes

from tidewarden.errors import NotAllowed, PortError
from tidewarden.yards import blocking, is_yard, settled_yard, yard_after, yard_moves

YARD = ((4, 1), (2,), (5, 3), ())


def plain_settled(yard):
    stacks = [list(stack) for stack in yard]
    while any(stacks):
        least = min(box for stack in stacks for box in stack)
        tops = [stack for stack in stacks if stack and stack[-1] == least]
        if not tops:
            break
        tops[0].pop()
    return tuple(map(tuple, stacks))


def plain_after(yard, i, j):
    stacks = [list(stack) for stack in yard]
    stacks[j].append(stacks[i].pop())
    return plain_settled(tuple(map(tuple, stacks)))


def some_yards(seed, many):
    rng = random.Random(seed)
    for _ in range(many):
        height = rng.randint(1, 5)
        stacks = [[] for _ in range(rng.randint(1, 6))]
        boxes = rng.sample(range(1, 40), rng.randint(0, min(9, height * len(stacks))))
        for box in boxes:
            rng.choice([stack for stack in stacks if len(stack) < height]).append(box)
        yield tuple(map(tuple, stacks)), height


class IsYardTest(unittest.TestCase):
    def test_yards(self):
        for value, height in [
                (((),), 1), (((), ()), 1), (((1,),), 1), (YARD, 2), (((),) * 6, 9), (((3, 2, 1), (10 ** 20,)), 3),
                ((tuple(range(1, 10)),), 9)]:
            self.assertIs(is_yard(value, height), True, value)

    def test_no_yards(self):
        for value, height in [
                ((), 3), (((),) * 7, 3), (((1, 2),), 1), (((1, 2, 3), ()), 2), (((1, 1),), 3), (((1,), (1,)), 3),
                (((0,),), 3), (((-1,),), 3), (((2, 0),), 3), (((True,),), 3), (((2, True),), 3), (((1.0,),), 3),
                ((("1",),), 3), (((None,),), 3), (([1],), 3), ([(1,)], 3), ((1,), 3), ((((1,),),), 3), (((1,), 2), 3)]:
            self.assertIs(is_yard(value, height), False, value)

    def test_any_value(self):
        for value in ODD:
            self.assertIs(is_yard(value, 3), False)
            self.assertIs(is_yard(((1,), value), 3), type(value) is tuple and len(value) == 0)
        for value in with_changes(((4, 1), (2,)), (None, True, "a", -1, 1.0, [])):
            plain = type(value) is tuple and all(type(stack) is tuple for stack in value)
            plain = plain and all(type(box) is int and box > 0 for stack in value for box in stack)
            self.assertIs(is_yard(value, 2), bool(plain and value), value)


class MovesTest(unittest.TestCase):
    def test_settled(self):
        self.assertEqual(settled_yard(YARD), ((), (), (), ()))
        self.assertEqual(settled_yard(((1, 4), (2,), (5, 3), ())), ((1, 4), (2,), (5, 3), ()))
        self.assertEqual(settled_yard(((6, 1), (3, 5), (4, 2))), ((6,), (3, 5), (4,)))
        self.assertEqual(settled_yard(((),)), ((),))
        self.assertEqual(settled_yard(((3, 2, 1),)), ((),))
        self.assertEqual(settled_yard(((30, 20, 40),)), ((30, 20, 40),))

    def test_settled_by_the_words(self):
        for yard, height in some_yards(1, 400):
            found = settled_yard(yard)
            self.assertEqual(found, plain_settled(yard))
            self.assertIs(is_yard(found, height), True)

    def test_moves(self):
        self.assertEqual(yard_moves(((1, 4), (2,), ()), 2), [(0, 1), (0, 2), (1, 2)])
        self.assertEqual(yard_moves(((1, 4), (2,), ()), 3), [(0, 1), (0, 2), (1, 0), (1, 2)])
        self.assertEqual(yard_moves(((1, 2),), 3), [])
        self.assertEqual(yard_moves(((), ()), 3), [])
        self.assertEqual(yard_moves(((1, 3), (2, 4)), 2), [])

    def test_moves_and_no_moves(self):
        for yard, height in some_yards(2, 150):
            yard = plain_settled(yard)
            stacks = range(len(yard))
            wanted = [
                (i, j) for i in stacks for j in stacks
                if i != j and len(yard[i]) > 0 and len(yard[j]) < height]
            found = yard_moves(yard, height)
            self.assertEqual(found, wanted)
            self.assertTrue(all(type(move) is tuple for move in found))
            for move in itertools.product(range(-3, len(yard) + 2), repeat=2):
                if move in wanted:
                    self.assertEqual(yard_after(yard, height, move), plain_after(yard, *move))
                else:
                    with self.assertRaises(NotAllowed):
                        yard_after(yard, height, move)

    def test_the_error_is_of_no_other_class(self):
        for move in [(0, 0), (2, 0), (0, 1), (-1, 0), (0, -1), (0, 3), (3, 0), (10 ** 9, 0)]:
            try:
                yard_after(((1, 4), (2, 3), ()), 2, move)
            except PortError as error:
                self.assertIs(type(error), NotAllowed)
            else:
                self.fail(move)

    def test_after(self):
        self.assertEqual(yard_after(((1, 2), (3,)), 2, (0, 1)), ((), ()))
        self.assertEqual(yard_after(((1, 3), (2,), ()), 2, (0, 2)), ((), (), ()))
        self.assertEqual(yard_after(((1, 4), (2,), ()), 3, (1, 0)), ((1, 4, 2), (), ()))

    def test_blocking(self):
        self.assertEqual(blocking(((), ())), 0)
        self.assertEqual(blocking(((5, 4, 3), (2,))), 0)
        self.assertEqual(blocking(((1, 2, 3), (4,))), 2)
        self.assertEqual(blocking(((1, 3, 2), ())), 2)
        self.assertEqual(blocking(((5, 1, 4, 3, 2), (6, 7))), 4)
        self.assertEqual(blocking(((5, 6, 4, 3),)), 1)

    def test_blocking_by_the_words(self):
        for yard, _ in some_yards(3, 300):
            many = 0
            for stack in yard:
                for k, box in enumerate(stack):
                    many += any(lower < box for lower in stack[:k])
            self.assertEqual(blocking(yard), many)


if __name__ == "__main__":
    unittest.main()
