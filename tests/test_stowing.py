import itertools
import random
import unittest

from odd_values import DEEP, ODD, nested, with_changes
from some_boxes import TABLES, box, plain_faults, some_box, some_ship

from tidewarden.ships import is_load, load_faults, slots_of
from tidewarden.stowing import check_stow, stow_paper, stowings

WORDS_OF_TWO = ("crushes", "covers", "near")


def placings(ship, boxes):
    for slots in itertools.permutations(slots_of(ship), len(boxes)):
        yield tuple(sorted(zip(slots, boxes)))


def plain_stowings(ship, table, boxes):
    return [load for load in placings(ship, boxes) if not plain_faults(ship, table, load)]


def right_words(ship, table, boxes, placed, slot):
    """The branches without a tree that are right for the next box in a slot."""
    one = boxes[len(placed)]
    words = []
    if slot in [taken for taken, _ in placed]:
        words.append(("taken",))
    if one[2] == "cold" and slot not in ship[3]:
        words.append(("warm",))
    for j, (taken, other) in enumerate(placed):
        told = {frozenset((a, b)): distance for a, b, distance in table}
        if taken == slot:
            # Two boxes in one slot are 0 apart.
            fault = told.get(frozenset((one[2], other[2])), 0) > 0
        else:
            found = plain_faults(ship, table, tuple(sorted([(slot, one), (taken, other)])))
            fault = any(name in WORDS_OF_TWO for name, *_ in found)
        if fault:
            words.append(("against", j))
    return words


def plain_tree(ship, table, boxes, placed, value):
    """The words of point 10.1 for any value."""
    if len(placed) == len(boxes):
        return repr(value) == "('fault',)" and bool(plain_faults(ship, table, tuple(sorted(placed))))
    if type(value) is not tuple or len(value) != 2 or repr(value[0]) != "'slots'" or type(value[1]) is not tuple:
        return False
    slots = slots_of(ship)
    if len(value[1]) != len(slots):
        return False
    for slot, branch in zip(slots, value[1]):
        if repr(branch) in map(repr, right_words(ship, table, boxes, placed, slot)):
            continue
        if slot in [taken for taken, _ in placed]:
            return False
        if not plain_tree(ship, table, boxes, placed + [(slot, boxes[len(placed)])], branch):
            return False
    return True


def other_tree(rng, ship, table, boxes, placed):
    """A tree for boxes without a stowing, with any of the right branches."""
    if len(placed) == len(boxes):
        return ("fault",)
    branches = []
    for slot in slots_of(ship):
        choices = right_words(ship, table, boxes, placed, slot)
        if slot not in [taken for taken, _ in placed] and (not choices or rng.random() < 0.5):
            branches.append(other_tree(rng, ship, table, boxes, placed + [(slot, boxes[len(placed)])]))
        else:
            branches.append(rng.choice(choices))
    return ("slots", tuple(branches))


def some_cases(seed, many, sides=((1, 1, 2), (1, 2, 2), (2, 1, 2), (2, 2, 1), (1, 1, 3), (3, 2, 1)), most=3):
    rng = random.Random(seed)
    for _ in range(many):
        ship = some_ship(rng, sides, (0, 1, 2, 4, 9))
        kinds = rng.choice([("plain",), ("plain", "cold"), ("d1", "d2"), ("plain", "cold", "d1", "d2", "d3")])
        boxes = [some_box(rng, k, kinds) for k in rng.sample(range(100), rng.randint(0, most))]
        yield ship, rng.choice(TABLES), boxes


def changed_parts(value, others):
    """All values in which one part of nested tuples is another, left out, put in, or turned round."""
    for other in others:
        yield other
    if type(value) is tuple and value[:1] == ("slots",):
        yield ("slots", value[1], value[1])
        yield ("slots", list(value[1]))
        yield ("slots", value[1][::-1])
        branches = value[1]
        for k, branch in enumerate(branches):
            yield ("slots", branches[:k] + branches[k + 1:])
            yield ("slots", branches[:k] + (branch,) + branches[k:])
            for part in changed_parts(branch, others):
                yield ("slots", branches[:k] + (part,) + branches[k + 1:])


OTHERS = (
    ("taken",), ("warm",), ("against", 0), ("against", 1), ("against", -1), ("against", 2), ("against", True),
    ("against", False), ("against", 0.0), ("against",), ("against", 0, 0), ("taken", 0), ("warm", ()), ("fault",),
    ("fault", ()), ("slots", ()), ("slots",), ["taken"], ["fault"], (), None, True, "taken", "fault", ("near", 0))


class StowingsTest(unittest.TestCase):
    def test_told_ones(self):
        ship = (1, 1, 2, ((0, 0, 1),), 0, 0)
        light, heavy, cold = box(1, 1), box(2, 2), box(3, 1, "cold")
        self.assertEqual(stowings(ship, (), []), 1)
        self.assertEqual(stow_paper(ship, (), []), ("load", ()))
        self.assertEqual(stowings(ship, (), [light]), 1)
        self.assertEqual(stow_paper(ship, (), [light, heavy]), ("load", (((0, 0, 0), heavy), ((0, 0, 1), light))))
        self.assertEqual(stowings(ship, (), [light, heavy]), 1)
        self.assertEqual(stowings(ship, (), [light, cold]), 1)
        self.assertEqual(stow_paper(ship, (), [cold, light]), ("load", (((0, 0, 0), light), ((0, 0, 1), cold))))
        self.assertEqual(stowings(ship, (), [light, heavy, cold]), 0)
        self.assertEqual(stowings((1, 1, 1, (), 0, 0), (), [cold]), 0)
        self.assertEqual(stow_paper((1, 1, 1, (), 0, 0), (), [cold]), ("none", ("slots", (("warm",),))))
        self.assertEqual(stow_paper((1, 2, 1, (), 0, 0), (), [light])[0], "none")
        self.assertEqual(stowings((1, 2, 1, (), 0, 0), (), [light, box(4, 1)]), 2)

    def test_some_cases(self):
        seen = {"load": 0, "none": 0}
        for ship, table, boxes in some_cases(1, 700):
            right = plain_stowings(ship, table, boxes)
            self.assertEqual(stowings(ship, table, boxes), len(right))
            paper = stow_paper(ship, table, boxes)
            self.assertIs(type(paper), tuple)
            self.assertEqual(len(paper), 2)
            seen[paper[0]] += 1
            if right:
                self.assertEqual(paper[0], "load")
                self.assertIn(paper[1], right)
            else:
                self.assertEqual(paper[0], "none")
                self.assertTrue(plain_tree(ship, table, boxes, [], paper[1]))
            self.assertIs(check_stow(ship, table, boxes, paper), True)
        self.assertGreater(min(seen.values()), 150)

    def test_sizes_end_soon(self):
        ship = (2, 2, 2, ((0, 0, 0),), 0, 0)
        for boxes in [
                [box(k, 1) for k in range(4)], [box(1, 1), box(2, 1), box(3, 1), box(4, 2)],
                [box(k, 1, "cold") for k in range(4)], [box(k, 1, "d1") for k in range(4)]]:
            for table in TABLES:
                right = plain_stowings(ship, table, boxes)
                self.assertEqual(stowings(ship, table, boxes), len(right))
                paper = stow_paper(ship, table, boxes)
                self.assertEqual(paper[0], "load" if right else "none")
                self.assertIs(check_stow(ship, table, boxes, paper), True)

    def test_arguments_stay(self):
        boxes = [box(2, 2), box(1, 1, "cold"), box(3, 1)]
        ship, table = (1, 2, 2, ((0, 0, 1),), 9, 9), (("d1", "d1", 1),)
        copy = list(boxes)
        paper = stow_paper(ship, table, boxes)
        stowings(ship, table, boxes)
        check_stow(ship, table, boxes, paper)
        self.assertEqual(boxes, copy)


class CheckLoadTest(unittest.TestCase):
    def test_all_loads_of_the_boxes(self):
        for ship, table, boxes in some_cases(2, 60):
            for load in placings(ship, boxes):
                self.assertIs(
                    check_stow(ship, table, boxes, ("load", load)), not plain_faults(ship, table, load))

    def test_other_boxes(self):
        ship = (2, 2, 1, (), 99, 99)
        boxes = [box(1), box(2), box(3)]
        slots = slots_of(ship)
        load = tuple(zip(slots, boxes))
        self.assertIs(check_stow(ship, (), boxes, ("load", load)), True)
        for other in [
                load[1:], load[:1] + load[2:], load + ((slots[3], box(4)),), load[:2] + ((slots[2], box(4)),),
                load[:2] + ((slots[2], box(3, 2)),), load[:2] + ((slots[2], box(3, 1, "cold")),),
                load[:2] + ((slots[2], box(3, 1, "plain", 2)),), (), load[:2] + ((slots[2], box(2)),),
                load[::-1], load[:2] + ((slots[1], boxes[2]),), load[:2] + (((0, 0, 1), boxes[2]),)]:
            self.assertEqual(
                [fault for fault in load_faults(ship, (), other) if fault[0] not in ("floats", "warm")], [])
            self.assertIs(check_stow(ship, (), boxes, ("load", other)), False, other)
        self.assertIs(check_stow(ship, (), [], ("load", ())), True)
        self.assertIs(check_stow(ship, (), [], ("load", load[:1])), False)

    def test_other_values(self):
        ship = (2, 2, 1, ((0, 0, 0),), 99, 99)
        boxes = [box(1), box(2, 1, "cold")]
        paper = stow_paper(ship, (), boxes)
        self.assertEqual(paper[0], "load")
        for value in with_changes(paper):
            self.assertIs(check_stow(ship, (), boxes, value), False, value)
        for value in [("none", paper[1]), ("loads", paper[1]), ("load", ("load", paper[1])), ("load",), paper[1]]:
            self.assertIs(check_stow(ship, (), boxes, value), False)
        for value in ODD + DEEP:
            self.assertIs(check_stow(ship, (), boxes, value), False)
            self.assertIs(check_stow(ship, (), boxes, ("load", value)), False)
            self.assertIs(check_stow(ship, (), boxes, ("none", value)), False)
            self.assertIs(check_stow(ship, (), boxes, (value, paper[1])), False)
            is_empty = type(value) is tuple and len(value) == 0
            self.assertIs(check_stow(ship, (), [], ("load", value)), is_empty)
            self.assertTrue(is_load(ship, value) or not is_empty)


class CheckTreeTest(unittest.TestCase):
    def test_no_boxes_have_no_tree(self):
        for tree in [("fault",), ("slots", ()), ("slots", (("fault",),)), ()]:
            self.assertIs(check_stow((1, 1, 1, (), 0, 0), (), [], ("none", tree)), False)

    def test_taken_and_warm(self):
        ship, boxes = (1, 1, 1, (), 0, 0), [box(1), box(2, 1, "cold")]
        for branch, right in [(("taken",), True), (("warm",), True), (("against", 0), False), (("fault",), False)]:
            tree = ("slots", (("slots", (branch,)),))
            self.assertIs(check_stow(ship, (), boxes, ("none", tree)), right)
        for plugs, word in [((), "taken"), ((), "against"), (((0, 0, 0),), "warm")]:
            tree = ("slots", ((word,),))
            self.assertIs(check_stow((1, 1, 1, plugs, 0, 0), (), boxes[1:], ("none", tree)), False)

    def test_against_in_both_orders(self):
        ship = (1, 1, 2, (), 9, 9)
        tree = ("slots", (("slots", (("taken",), ("against", 0))), ("slots", (("against", 0), ("taken",)))))
        # The box 1 covers the box 2, and this one crushes the box 1.
        boxes = [box(1, 1, "plain", 2), box(2, 2, "plain", 1)]
        self.assertIs(check_stow(ship, (), boxes, ("none", tree)), True)
        self.assertIs(check_stow(ship, (), boxes[::-1], ("none", tree)), True)
        for others in [[boxes[0], box(2, 1, "plain", 1)], [boxes[0], box(2, 2, "plain", 2)]]:
            self.assertIs(check_stow(ship, (), others, ("none", tree)), False)
            self.assertIs(check_stow(ship, (), others[::-1], ("none", tree)), False)
        for distance in (1, 2):
            table = (("d1", "d2", distance),)
            for kinds in [("d1", "d2"), ("d2", "d1")]:
                boxes = [box(1, 1, kinds[0]), box(2, 1, kinds[1])]
                self.assertIs(check_stow(ship, table, boxes, ("none", tree)), distance == 2)

    def test_against_any_placed_box(self):
        ship, table = (1, 3, 1, (), 9, 9), (("d1", "d1", 3),)
        boxes = [box(1), box(2, 1, "d1"), box(3, 1, "d1")]
        rows = []
        for first in range(3):
            branches = []
            for second in range(3):
                third = tuple(("taken",) if slot in (first, second) else ("against", 1) for slot in range(3))
                branches.append(("taken",) if first == second else ("slots", third))
            rows.append(("slots", tuple(branches)))
        self.assertIs(check_stow(ship, table, boxes, ("none", ("slots", tuple(rows)))), True)
        first = ("slots", (("taken",), rows[0][1][1], ("slots", (("taken",), ("against", 0), ("taken",)))))
        self.assertIs(check_stow(ship, table, boxes, ("none", ("slots", (first, *rows[1:])))), False)

    def test_trees_with_other_right_branches(self):
        rng = random.Random(5)
        seen = 0
        for ship, table, boxes in some_cases(3, 400):
            if plain_stowings(ship, table, boxes):
                continue
            for _ in range(3):
                tree = other_tree(rng, ship, table, boxes, [])
                self.assertTrue(plain_tree(ship, table, boxes, [], tree))
                self.assertIs(check_stow(ship, table, boxes, ("none", tree)), True)
                seen += tree != stow_paper(ship, table, boxes)[1]
        self.assertGreater(seen, 100)

    def test_trees_that_are_changed(self):
        taken = refused = 0
        for ship, table, boxes in some_cases(4, 150, ((1, 1, 2), (1, 2, 1), (1, 1, 3), (1, 2, 2)), 3):
            paper = stow_paper(ship, table, boxes)
            if paper[0] != "none":
                continue
            for tree in itertools.islice(changed_parts(paper[1], OTHERS), 700):
                right = plain_tree(ship, table, boxes, [], tree)
                self.assertIs(check_stow(ship, table, boxes, ("none", tree)), right, tree)
                taken += right
                refused += not right
        self.assertGreater(taken, 100)
        self.assertGreater(refused, 1000)

    def test_no_tree_beside_a_stowing(self):
        rng = random.Random(6)
        seen = 0
        for ship, table, boxes in some_cases(5, 300):
            if plain_stowings(ship, table, boxes):
                tree = other_tree(rng, ship, table, boxes, [])
                self.assertIs(check_stow(ship, table, boxes, ("none", tree)), False)
                seen += 1
        self.assertGreater(seen, 100)

    def test_other_values(self):
        ship, table, boxes = (1, 2, 1, (), 0, 0), (("d1", "d2", 2),), [box(1, 2, "d1"), box(2, 1, "d2")]
        paper = stow_paper(ship, table, boxes)
        self.assertEqual(paper[0], "none")
        for value in with_changes(paper):
            right = type(value) is tuple and len(value) == 2 and repr(value[0]) == "'none'"
            right = right and plain_tree(ship, table, boxes, [], value[1])
            self.assertIs(check_stow(ship, table, boxes, value), right, value)
        for value in ODD + DEEP:
            self.assertIs(check_stow(ship, table, boxes, value), False)
            self.assertIs(check_stow(ship, table, boxes, ("none", value)), False)
            self.assertIs(check_stow(ship, table, boxes, ("none", ("slots", value))), False)
            self.assertIs(check_stow(ship, table, boxes, ("none", ("slots", (value, value)))), False)
            for word in ("against", "slots", "taken", "fault"):
                tree = ("slots", (("slots", (("taken",), (word, value))), ("slots", (("against", 0), ("taken",)))))
                self.assertIs(check_stow(ship, table, boxes, ("none", tree)), False)

    def test_deep_trees(self):
        deep = nested(lambda part: ("slots", (part,)), 99, ("fault",))
        self.assertIs(check_stow((1, 1, 1, (), 0, 0), (), [box(1, 1, "cold"), box(2)], ("none", deep)), False)
        ship = (1, 1, 1, (), 0, 0)
        self.assertIs(check_stow(ship, (), [box(1, 1, "cold")], ("none", ("slots", (("fault",),)))), True)


if __name__ == "__main__":
    unittest.main()
