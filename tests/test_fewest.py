import itertools
import random
import unittest

from odd_values import DEEP, ODD, with_changes

from tidewarden.fewest import check_yard, fewest_moves, plan_ends, yard_paper
from tidewarden.yards import blocking, settled_yard, yard_after, yard_moves


# Only the tops can change their places, and the boxes 1, 2 and 3 are never among them.
NEVER = ((1, 4, 5), (2, 6, 7), (3, 8))


def is_left(yard):
    return any(yard)


def further(yard, height):
    return [yard_after(yard, height, move) for move in yard_moves(yard, height)]


def plain_fewest(yard, height):
    """The fewest moves by going through all yards in layers, and all yards that were met."""
    layer = [settled_yard(yard)]
    met = set(layer)
    moves = 0
    while layer:
        if not all(is_left(now) for now in layer):
            return moves, met
        layer = sorted({after for now in layer for after in further(now, height)} - met)
        met |= set(layer)
        moves += 1
    return None, met


def plain_tree(yard, height, moves, tree):
    """The words of point 8.2, for nested tuples of the right kinds."""
    if tree == ("blocked",):
        return blocking(yard) > moves
    if len(tree) != 2 or tree[0] != "moves" or moves < 1:
        return False
    afters = further(yard, height)
    return len(tree[1]) == len(afters) and all(
        is_left(after) and plain_tree(after, height, moves - 1, part) for after, part in zip(afters, tree[1]))


def full_tree(yard, height, moves):
    """A tree that says blocked only where no move is left."""
    if moves == 0:
        return ("blocked",)
    return ("moves", tuple(full_tree(after, height, moves - 1) for after in further(yard, height)))


def parts_of(tree):
    yield ()
    if tree[0] == "moves":
        for k, part in enumerate(tree[1]):
            for path in parts_of(part):
                yield (k,) + path


def changed(tree, path, how):
    """The tree with one of its parts replaced."""
    if not path:
        return how(tree)
    k = path[0]
    return ("moves", tree[1][:k] + (changed(tree[1][k], path[1:], how),) + tree[1][k + 1:])


def some_yards(seed, many):
    rng = random.Random(seed)
    for _ in range(many):
        height = rng.randint(1, 4)
        stacks = [[] for _ in range(rng.randint(1, 4))]
        boxes = list(range(1, rng.randint(0, min(5, height * len(stacks))) + 1))
        rng.shuffle(boxes)
        for box in boxes:
            rng.choice([stack for stack in stacks if len(stack) < height]).append(box)
        yield tuple(map(tuple, stacks)), height


class PlanTest(unittest.TestCase):
    def test_plans(self):
        yard = ((1, 3, 2), (), ())
        self.assertIs(plan_ends(yard, 3, ((0, 1), (0, 2))), True)
        self.assertIs(plan_ends(yard, 3, ((0, 1), (0, 1))), False)
        self.assertIs(plan_ends(yard, 3, ((0, 1), (0, 1), (1, 0))), True)
        self.assertIs(plan_ends(yard, 3, ((0, 1), (1, 2), (0, 1))), True)
        self.assertIs(plan_ends(yard, 3, ()), False)
        self.assertIs(plan_ends(yard, 3, ((0, 1),)), False)
        self.assertIs(plan_ends(yard, 3, ((0, 1), (0, 2), (1, 0))), False)
        self.assertIs(plan_ends(yard, 3, ((0, 1), (0, 0))), False)
        self.assertIs(plan_ends(yard, 3, ((1, 0), (0, 1), (0, 2))), False)
        self.assertIs(plan_ends(yard, 3, ((0, 1), (0, 3))), False)
        self.assertIs(plan_ends(yard, 3, ((0, -1), (0, 1))), False)
        self.assertIs(plan_ends(yard, 1, ((0, 1), (0, 2))), True)
        self.assertIs(plan_ends(yard, 1, ((0, 1), (0, 1))), False)

    def test_begins_with_the_settled_yard(self):
        yard = ((2, 4, 1), (5,))
        self.assertIs(plan_ends(yard, 3, ((0, 1),)), True)
        self.assertIs(plan_ends(((3, 2, 1), ()), 3, ()), True)
        self.assertIs(plan_ends(((3, 2, 1), ()), 3, ((0, 1),)), False)

    def test_other_values(self):
        yard = ((1, 3, 2), (), ())
        plan = ((0, 1), (0, 2))
        for value in ODD:
            self.assertIs(plan_ends(yard, 3, value), False)
            self.assertIs(plan_ends(yard, 3, (value,) + plan[1:]), False)
        for value in with_changes(plan):
            self.assertIs(plan_ends(yard, 3, value), False, value)
        self.assertIs(plan_ends(yard, 3, ((False, 1), (0, 2))), False)
        self.assertIs(plan_ends(yard, 3, ((0, True), (0, 2))), False)
        self.assertIs(plan_ends(((1, 2), ()), 2, ((0, True),)), False)
        for value in ODD:
            self.assertIs(plan_ends(((1,),), 2, value), False)


class PaperTest(unittest.TestCase):
    def check(self, yard, height):
        fewest, met = plain_fewest(yard, height)
        self.assertEqual(fewest_moves(yard, height), fewest)
        paper = yard_paper(yard, height)
        self.assertIs(type(paper), tuple)
        self.assertIs(check_yard(yard, height, paper), True)
        settled = settled_yard(yard)
        if fewest is None:
            word, yards = paper
            self.assertEqual(word, "never")
            self.assertEqual(list(yards), sorted(set(yards)))
            self.assertIn(settled, yards)
            self.assertTrue(all(is_left(now) for now in yards))
            self.assertTrue(all(after in yards for now in yards for after in further(now, height)))
            self.assertIs(check_yard(yard, height, ("plan", (), ())), False)
        else:
            word, plan, tree = paper
            self.assertEqual(word, "plan")
            self.assertEqual(len(plan), fewest)
            self.assertIs(plan_ends(yard, height, plan), True)
            if fewest:
                self.assertTrue(plain_tree(settled, height, fewest - 1, tree))
            else:
                self.assertEqual(tree, ())
            self.assertIs(check_yard(yard, height, ("never", tuple(sorted(met)))), False)

    def test_example(self):
        self.assertEqual(fewest_moves(((1, 2), (3,)), 2), 1)
        self.assertEqual(yard_paper(((1, 2), (3,)), 2), ("plan", ((0, 1),), ("blocked",)))

    def test_boxes_that_leave_by_themselves(self):
        for yard in [((),), ((), ()), ((1,),), ((3, 2, 1), (5, 4)), ((7, 2), (5, 1))]:
            self.assertEqual(yard_paper(yard, 3), ("plan", (), ()))
            self.assertEqual(fewest_moves(yard, 3), 0)
            self.assertIs(check_yard(yard, 3, ("plan", (), ())), True)
            for value in [
                    ("plan", (), ("blocked",)), ("plan", (), ("moves", ())), ("plan", ((0, 1),), ()), ("plan", ()),
                    ("plan", (), (), ()), ("plan", [], ()), ("plan", (), []), ["plan", (), ()], ("never", ()),
                    ("never", (settled_yard(yard),)), ("plan", (), None), ("plan", (), ((),))]:
                self.assertIs(check_yard(yard, 3, value), False, value)

    def test_never(self):
        self.assertIsNone(fewest_moves(((1, 2),), 2))
        self.assertEqual(yard_paper(((1, 2),), 2), ("never", (((1, 2),),)))
        self.assertIsNone(fewest_moves(((1, 3), (2, 4)), 2))
        self.check(NEVER, 3)
        self.assertEqual(len(yard_paper(NEVER, 3)[1]), 6)

    def test_some_yards(self):
        for yard, height in some_yards(1, 250):
            self.check(yard, height)

    def test_unsettled_yard(self):
        for yard in [((3, 5, 1), (4, 2)), ((2, 4, 1), ()), ((2, 4, 1),)]:
            self.check(yard, 3)

    def test_sizes_end_soon(self):
        yard = ((1, 3, 5, 7, 6, 4, 2), ())
        self.assertEqual(fewest_moves(yard, 7), 21)
        self.assertIs(check_yard(yard, 7, yard_paper(yard, 7)), True)
        yard = ((1, 6), (2, 7), (3, 5, 4), ())
        self.assertEqual(fewest_moves(yard, 4), plain_fewest(yard, 4)[0])
        self.assertIs(check_yard(yard, 4, yard_paper(yard, 4)), True)


class CheckTest(unittest.TestCase):
    def test_longer_trees(self):
        for yard, height in some_yards(2, 150):
            fewest, _ = plain_fewest(yard, height)
            if not fewest or fewest > 3:
                continue
            settled = settled_yard(yard)
            plan, tree = yard_paper(yard, height)[1:]
            full = full_tree(settled, height, fewest - 1)
            self.assertIs(check_yard(yard, height, ("plan", plan, full)), True)
            for path in parts_of(tree):
                now, left = settled, fewest - 1
                for k in path:
                    now, left = further(now, height)[k], left - 1
                mixed = changed(tree, path, lambda part: full_tree(now, height, left))
                self.assertIs(check_yard(yard, height, ("plan", plan, mixed)), True)

    def test_trees_that_are_changed(self):
        seen = 0
        hows = [
            lambda part: ("blocked",), lambda part: ("moves", ()), lambda part: ("moves", (part,)),
            lambda part: part[:1] + tuple(inner[:-1] for inner in part[1:]),
            lambda part: part[:1] + tuple(inner + (("blocked",),) for inner in part[1:]),
            lambda part: part[:1] + tuple(inner[::-1] for inner in part[1:]),
            lambda part: ("moves", (("blocked",),) * 2), lambda part: (), lambda part: ("other",)]
        for yard, height in some_yards(3, 600):
            paper = yard_paper(yard, height)
            if paper[0] != "plan" or not 2 <= len(paper[1]) <= 4:
                continue
            seen += 1
            settled = settled_yard(yard)
            for path, how in itertools.product(list(parts_of(paper[2])), hows):
                tree = changed(paper[2], path, how)
                self.assertIs(
                    check_yard(yard, height, ("plan", paper[1], tree)),
                    plain_tree(settled, height, len(paper[1]) - 1, tree) if tree else False)
        self.assertGreater(seen, 20)

    def test_plan_too_long_for_its_tree(self):
        yard = ((1, 3, 2), (), ())
        self.assertIs(check_yard(yard, 3, ("plan", ((0, 1), (0, 2)), ("blocked",))), True)
        for plan in [((0, 1), (1, 2), (0, 1)), ((0, 1), (1, 2), (2, 1), (0, 2))]:
            self.assertIs(plan_ends(yard, 3, plan), True)
            self.assertIs(check_yard(yard, 3, ("plan", plan, ("blocked",))), False)
            self.assertIs(check_yard(yard, 3, ("plan", plan, full_tree(settled_yard(yard), 3, 1))), False)
            self.assertIs(check_yard(yard, 3, ("plan", plan, full_tree(settled_yard(yard), 3, len(plan) - 1))), False)

    def test_no_tree_for_a_yard_without_boxes(self):
        yard, plan = ((1, 2), (3,)), ((1, 0), (0, 1), (0, 1))
        self.assertIs(plan_ends(yard, 3, plan), True)
        for part in [("moves", ()), ("blocked",), ("moves", (("blocked",),)), ()]:
            tree = ("moves", (part, ("blocked",)))
            self.assertIs(check_yard(yard, 3, ("plan", plan, tree)), False)

    def test_no_tree_without_moves_left(self):
        self.assertIs(check_yard(((1, 2), (3,)), 2, ("plan", ((0, 1),), ("moves", (("blocked",),)))), False)
        self.assertIs(check_yard(((1, 2), (3,)), 2, ("plan", ((0, 1),), ("moves", ()))), False)

    def test_other_closed_yards(self):
        yards = yard_paper(NEVER, 3)[1]
        self.assertIs(check_yard(NEVER, 3, ("never", yards)), True)
        # A yard of another form that no move leaves, and one that is not settled.
        more = tuple(sorted(yards + (((1, 2),), ((3, 2, 1),))))
        self.assertIs(check_yard(NEVER, 3, ("never", more)), True)
        for k in range(len(yards)):
            self.assertIs(check_yard(NEVER, 3, ("never", yards[:k] + yards[k + 1:])), False)
            self.assertIs(check_yard(NEVER, 3, ("never", yards[:k + 1] + yards[k:])), False)
        self.assertIs(check_yard(NEVER, 3, ("never", yards[::-1])), False)
        self.assertIs(check_yard(NEVER, 3, ("never", list(yards))), False)
        self.assertIs(check_yard(NEVER, 3, ("never", ())), False)
        for other in [((), ()), ((1, 2, 3, 4),), ((1, 1),), ((1, 4, 5), (2, 6, 7), (3, 9)), ((2, 1), ()), ((True,),), ((0,),)]:
            self.assertIs(check_yard(NEVER, 3, ("never", tuple(sorted(yards + (other,))))), False, other)

    def test_never_without_the_yard(self):
        self.assertIs(check_yard(((1, 2),), 2, ("never", (((1, 3),),))), False)
        self.assertIs(check_yard(((1, 2),), 2, ("never", (((1, 2),), ((1, 3),)))), True)
        self.assertIs(check_yard(((1, 2),), 2, ("never", (((1, 3),), ((1, 2),)))), False)

    def test_other_values(self):
        yard = ((1, 4, 3), (2, 5), ())
        paper = yard_paper(yard, 3)
        self.assertEqual(paper[0], "plan")
        self.assertEqual(paper[2][0], "moves")
        for value in ODD:
            self.assertIs(check_yard(yard, 3, value), False)
            self.assertIs(check_yard(NEVER, 3, value), False)
            self.assertIs(check_yard(yard, 3, (paper[0], paper[1], value)), False)
            self.assertIs(check_yard(yard, 3, (paper[0], value, paper[2])), False)
            self.assertIs(check_yard(yard, 3, (value, paper[1], paper[2])), type(value) is str and value == "plan")
            self.assertIs(check_yard(NEVER, 3, ("never", value)), False)
        for value in with_changes(yard_paper(NEVER, 3)):
            self.assertIs(check_yard(NEVER, 3, value), False)

    def test_changes_of_a_paper_with_branches(self):
        yard, height = ((1, 3, 5, 4, 2), ()), 5
        paper = yard_paper(yard, height)
        self.assertEqual(paper[2][0], "moves")
        self.assertIs(check_yard(yard, height, paper), True)
        for value in with_changes(paper, (None, True, "a", [], ())):
            self.assertIs(check_yard(yard, height, value), False)

    def test_deep_values(self):
        plan = ((0, 1),) * 99
        for value in DEEP:
            self.assertIs(check_yard(((1, 3, 2), ()), 3, value), False)
            self.assertIs(check_yard(((1, 3, 2), ()), 3, ("plan", plan, value)), False)

    def test_shared_tree_of_a_long_plan(self):
        # Few objects, but as many branches as there are ways to go to and fro.
        yard = ((), (1, 3, 5, 7, 6, 4, 2))
        plan, tree = yard_paper(yard, 7)[1:]
        settled = settled_yard(yard)
        known = {}

        def shared(now, moves):
            if (now, moves) not in known:
                parts = ("blocked",)
                if moves and is_left(now):
                    parts = ("moves", tuple(shared(after, moves - 1) for after in further(now, 7)))
                known[now, moves] = parts
            return known[now, moves]

        first, second = plan[0], plan[0][::-1]
        longer = (first, second) * 35 + plan
        self.assertIs(plan_ends(yard, 7, longer), True)
        self.assertIs(check_yard(yard, 7, ("plan", longer, shared(settled, len(longer) - 1))), False)
        self.assertIs(check_yard(yard, 7, ("plan", longer, tree)), False)

    def test_deep_tree_of_a_long_plan(self):
        # One box goes to and fro on two stacks, so each yard has one move, and no plan ends.
        yard = ((1, 2), ())
        tree = ("blocked",)
        for _ in range(97):
            tree = ("moves", (tree,))
        self.assertIs(check_yard(yard, 1, ("plan", ((0, 1),) * 98, tree)), False)


if __name__ == "__main__":
    unittest.main()
