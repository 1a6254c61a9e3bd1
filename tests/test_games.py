import itertools
import random
import unittest

from odd_values import DEEP, ODD, with_changes
from plain_papers import (
    breaks_of, holds_from, plain_arrived, plain_moved, plain_movements, plain_stops, plain_worked, right_game)
from some_ports import P, lies, plain_arrivals, plain_start, some_book, some_port, some_promise, some_state, waits

from tidewarden.games import can_keep, check_game, game_paper
from tidewarden.papers import keeps

# One vessel that needs a tick of work, and a crane that may stop once.
ONE = (3, 9, (0, 0, 0), ((5, 9),), ((5, 9, 0, 1, 1),), 1)
ONE_PROMISES = (("waits", 0, 1),)
LOST_PROMISES = (("gone", 0, 2),)


def some_cases(seed, many, ticks=3, vessels=2, berths=2):
    rng = random.Random(seed)
    for _ in range(many):
        port = some_port(rng, ticks, vessels, berths)
        yield rng, port, tuple(some_promise(rng, port) for _ in range(rng.choice((0, 1, 1, 2, 3))))


def some_tree(rng, port, promises, tick, state):
    """A right tree by any arrivals and any stops that spoil."""
    spoiling = []
    for arrivals in plain_arrivals(port, tick, state):
        here = plain_arrived(state, arrivals)
        answers = []
        for movement in plain_movements(port, tick, here):
            middle = plain_moved(port, here, movement)
            found = []
            for stops in plain_stops(port, middle):
                after = plain_worked(middle, stops)
                if breaks_of(port, promises, tick, middle, after):
                    found.append((stops, None))
                elif not holds_from(port, promises, tick + 1, after):
                    found.append((stops, after))
            answers.append(found)
        if all(answers):
            spoiling.append((arrivals, answers))
    arrivals, answers = rng.choice(spoiling)
    chosen = [rng.choice(found) for found in answers]
    return (arrivals, tuple(
        (stops, () if after is None else some_tree(rng, port, promises, tick + 1, after)) for stops, after in chosen))


def larger_rows(rng, port, rows, many=3):
    """Rows with some states more, and any movements in them."""
    found = []
    for tick, row in enumerate(rows):
        chosen = dict(row)
        for state in [some_state(rng, port) for _ in range(many)]:
            chosen.setdefault(state, rng.choice(plain_movements(port, tick, state)))
        found.append(tuple(sorted(chosen.items())))
    return tuple(found)


def states_met(port):
    """All pairs of a tick and a state after arrivals that some ways of choosing come to."""
    found, layer = [], {plain_start(port)}
    for tick in range(port[0]):
        here = {plain_arrived(state, arrivals) for state in layer for arrivals in plain_arrivals(port, tick, state)}
        found += [(tick, state) for state in sorted(here)]
        middles = [plain_moved(port, state, movement) for state in here for movement in plain_movements(port, tick, state)]
        layer = {plain_worked(middle, stops) for middle in middles for stops in plain_stops(port, middle)}
    return found


class GamePaperTest(unittest.TestCase):
    def test_told_papers(self):
        self.assertIs(can_keep(ONE, ONE_PROMISES), True)
        self.assertIs(can_keep(ONE, LOST_PROMISES), False)
        paper = game_paper(ONE, LOST_PROMISES)
        self.assertEqual(paper[0], "spoils")
        self.assertIs(check_game(ONE, LOST_PROMISES, paper), True)
        self.assertIs(can_keep(ONE[:5] + (0,), LOST_PROMISES), True)
        self.assertIs(can_keep(ONE[:4] + (((5, 9, 0, 0, 1),), 0), LOST_PROMISES), True)
        self.assertIs(can_keep(ONE[:4] + (((5, 9, 0, 0, 1),), 1), LOST_PROMISES), True)
        self.assertIs(can_keep(ONE[:4] + (((5, 9, 0, 0, 2),), 0), LOST_PROMISES), True)
        self.assertIs(can_keep(ONE[:4] + (((5, 9, 0, 0, 2),), 1), LOST_PROMISES), False)
        self.assertEqual(
            game_paper(ONE[:4] + (((5, 9, 0, 0, 2),), 1), (("berthed", 0, 0),))[1][0],
            ((((waits(0),), 1), ("in", 0, 0)),))
        self.assertEqual(game_paper((1,) + ONE[1:2] + ((0,),) + ONE[3:4] + (((5, 10, 0, 0, 1),), 0), (("berthed", 0, 0),)), (
            "spoils", ((0,), (((), ()),))))

    def test_no_promises(self):
        for port in [P, ONE]:
            paper = game_paper(port, ())
            self.assertEqual(paper[0], "ways")
            self.assertEqual(len(paper[1]), port[0])
            self.assertIs(right_game(port, (), paper), True)
            self.assertIs(check_game(port, (), paper), True)
            self.assertIs(can_keep(port, ()), True)

    def test_some_cases(self):
        seen = {True: 0, False: 0}
        for _, port, promises in some_cases(1, 400):
            held = holds_from(port, promises, 0, plain_start(port))
            seen[held] += 1
            self.assertIs(can_keep(port, promises), held)
            paper = game_paper(port, promises)
            self.assertEqual(paper[0], "ways" if held else "spoils")
            self.assertIs(right_game(port, promises, paper), True)
            self.assertIs(check_game(port, promises, paper), True)
        self.assertGreater(min(seen.values()), 100)

    def test_all_ways_of_small_ports(self):
        seen = {True: 0, False: 0}
        for _, port, promises in some_cases(2, 300, 3, 2, 1):
            met = states_met(port)
            options = [plain_movements(port, tick, state) for tick, state in met]
            many = 1
            for movements in options:
                many *= len(movements)
            if not 1 < many <= 300:
                continue
            right = False
            for chosen in itertools.product(*options):
                rows = [[] for _ in range(port[0])]
                for (tick, state), movement in zip(met, chosen):
                    rows[tick].append((state, movement))
                paper = ("ways", tuple(map(tuple, rows)))
                taken = check_game(port, promises, paper)
                self.assertIs(taken, right_game(port, promises, paper))
                right = right or taken
            self.assertIs(can_keep(port, promises), right)
            seen[right] += 1
        self.assertGreater(min(seen.values()), 30)

    def test_what_a_book_keeps_can_be_kept(self):
        kept = better = 0
        for rng, port, promises in some_cases(3, 400, 4, 2, 2):
            if keeps(port, some_book(rng), promises):
                kept += 1
                self.assertIs(can_keep(port, promises), True)
            elif can_keep(port, promises):
                better += 1
        self.assertGreater(kept, 50)
        self.assertGreater(better, 20)


class CheckGameTest(unittest.TestCase):
    def test_larger_rows(self):
        larger = 0
        for rng, port, promises in some_cases(4, 150):
            paper = game_paper(port, promises)
            if paper[0] == "ways":
                rows = larger_rows(rng, port, paper[1])
                larger += rows != paper[1]
                self.assertIs(check_game(port, promises, ("ways", rows)), True)
                self.assertIs(right_game(port, promises, ("ways", rows)), True)
                self.assertIs(check_game(port, promises, ("spoils", rows)), False)
        self.assertGreater(larger, 50)

    def test_other_trees(self):
        others = 0
        for rng, port, promises in some_cases(5, 200):
            paper = game_paper(port, promises)
            if paper[0] == "spoils":
                for _ in range(5):
                    tree = some_tree(rng, port, promises, 0, plain_start(port))
                    others += tree != paper[1]
                    self.assertIs(check_game(port, promises, ("spoils", tree)), True)
                    self.assertIs(check_game(port, promises, ("ways", tree)), False)
        self.assertGreater(others, 100)

    def test_rows_that_are_refused(self):
        rows = game_paper(ONE, ONE_PROMISES)[1]
        self.assertIs(check_game(ONE, ONE_PROMISES, ("ways", rows)), True)
        for k, row in enumerate(rows):
            for at, (state, movement) in enumerate(row):
                others = [row[:at] + row[at + 1:], row[:at] + (row[at],) * 2 + row[at + 1:]]
                for other in [("none",), ("in", 0, 0), ("out", 0), ("in", 0, 1), ("in", 1, 0), ("out", 1), ("none", 0), ("in", 0)]:
                    others.append(row[:at] + ((state, other),) + row[at + 1:])
                others.append(row[:at] + ((state,),) + row[at + 1:])
                others.append(row[:at] + ((movement, state),) + row[at + 1:])
                for other in others:
                    value = ("ways", rows[:k] + (other,) + rows[k + 1:])
                    self.assertIs(check_game(ONE, ONE_PROMISES, value), right_game(ONE, ONE_PROMISES, value))
            for other in [row[::-1], list(row), ()]:
                if len(row) > 1 or other != row:
                    self.assertIs(check_game(ONE, ONE_PROMISES, ("ways", rows[:k] + (other,) + rows[k + 1:])), False)
        for other in [rows[:2], rows + ((),), rows + rows[-1:], rows[::-1], list(rows), (rows,), ()]:
            self.assertIs(check_game(ONE, ONE_PROMISES, ("ways", other)), False)

    def test_a_movement_that_breaks_a_promise(self):
        rows = game_paper(ONE, ONE_PROMISES)[1]
        late = ((waits(1),), 1)
        self.assertIn(late, [state for state, _ in larger_rows(random.Random(1), ONE, rows, 60)[1]])
        # The vessel that has come at the tick 0 may wait once, but not twice.
        for first, second, right in [("in", "in", True), ("in", "none", True), ("none", "in", True), ("none", "none", False)]:
            movements = {"in": ("in", 0, 0), "none": ("none",)}
            changed = {((waits(0),), 1): movements[first]}, {late: movements[second]}, {}
            value = tuple(tuple(sorted((dict(row) | more).items())) for row, more in zip(rows, changed))
            value = larger_rows(random.Random(2), ONE, value, 60)
            value = tuple(
                tuple((state, ("out", 0) if state[0] == (lies(0, 0),) else movement) for state, movement in row) for row in value)
            self.assertIs(right_game(ONE, ONE_PROMISES, ("ways", value)), right)
            self.assertIs(check_game(ONE, ONE_PROMISES, ("ways", value)), right)

    def test_trees_that_are_refused(self):
        paper = game_paper(ONE, LOST_PROMISES)
        arrivals, answers = paper[1]
        for tree in [
                ((0, 0), answers), ((1,), answers), ((5,), answers), (arrivals, answers + answers[:1]),
                (arrivals, answers[:-1]), (arrivals, ()), (arrivals,), (arrivals, answers, ()), (), ((), ()),
                (arrivals, list(answers)), (list(arrivals), answers), [arrivals, answers], paper[1][::-1]]:
            self.assertIs(check_game(ONE, LOST_PROMISES, ("spoils", tree)), False)
        for tree in [((), (((), ()),)), ((0,), (((), ()), ((), ()))), ((0,), (((), ()), ((1,), ())))]:
            self.assertIs(check_game(ONE, LOST_PROMISES, ("spoils", tree)), False)

    def test_trees_that_end_elsewhere(self):
        port, promises = ONE[:4] + (((5, 9, 0, 0, 3),), 0), (("gone", 0, 1), ("gone", 0, 2))
        done = ((), ())
        second = ((), (done,))
        moved = ((), (((), ((), (done,))),))
        self.assertIs(check_game(port, promises, ("spoils", ((0,), (((), ((), (done,))), ((), ((), (done, done))))))), True)
        for tree in [
                ((0,), (done, done)), ((0,), (((), second), ((), second))),
                # On behind a broken promise.
                ((0,), (((), moved), ((), ((), (((), second), ((), second)))))),
                ((0,), (((), moved), ((), ((), (done, done)))))]:
            self.assertIs(check_game(port, promises, ("spoils", tree)), False)
            self.assertIs(right_game(port, promises, ("spoils", tree)), False)
        # Behind the last tick of the day there is no tree, even if no promise is broken.
        for last in [(), second, ((), ()), done]:
            day = ((0,), (((), ((), (((), ((), (((), last),))),))), ((), ((), (((), last), ((), last))))))
            self.assertIs(check_game(port, (), ("spoils", day)), False)

    def test_trees_that_are_longer_than_the_day(self):
        # The vessel is too deep for the berth, but waits too long only behind the last tick of the day.
        port = (1, 9, (0,), ((5, 9),), ((5, 10, 0, 0, 1),), 0)
        tree = ((0,), (((), ((), (((), ()),))),))
        self.assertIs(check_game(port, (("waits", 0, 1),), ("spoils", tree)), False)
        self.assertIs(check_game(port, (("waits", 0, 0),), ("spoils", tree)), False)
        self.assertIs(check_game(port, (("waits", 0, 0),), ("spoils", ((0,), (((), ()),)))), True)
        self.assertIs(check_game((2, 9, (0, 0)) + port[3:], (("waits", 0, 1),), ("spoils", tree)), True)
        self.assertIs(can_keep(port, (("waits", 0, 1),)), True)

    def test_changes_by_the_words(self):
        taken = refused = 0
        for _, port, promises in some_cases(6, 60):
            paper = game_paper(port, promises)
            if len(repr(paper)) > 1000:
                continue
            for value in with_changes(paper):
                right = right_game(port, promises, value)
                self.assertIs(check_game(port, promises, value), right, value)
                taken, refused = taken + right, refused + (not right)
        self.assertGreater(refused, 5000)
        self.assertGreater(taken, 5)

    def test_any_value(self):
        rows = game_paper(ONE, ONE_PROMISES)[1]
        arrivals, answers = game_paper(ONE, LOST_PROMISES)[1]
        for value in ODD + DEEP:
            self.assertIs(check_game(ONE, ONE_PROMISES, value), False)
            self.assertIs(check_game(ONE, LOST_PROMISES, value), False)
            for part in [value, (value,), (value,) * 3, (rows[0], rows[1], (value,)), rows[:2] + (((value, ("none",)),),),
                         rows[:2] + (rows[2] + (((((3, 0, 0),), 0), value),),), rows[:2] + (rows[2] + (value,),)]:
                self.assertIs(check_game(ONE, ONE_PROMISES, ("ways", part)), False)
            for part in [(value, answers), (arrivals, value), (arrivals, (value,) + answers[1:]),
                         (arrivals, ((value, answers[0][1]),) + answers[1:]), ((value,), answers),
                         (arrivals, ((answers[0][0], value),) + answers[1:])]:
                self.assertIs(check_game(ONE, LOST_PROMISES, ("spoils", part)), False)
                self.assertIs(check_game(ONE, LOST_PROMISES, ("ways", part)), False)
        # True and 1.0 are no numbers of vessels.
        for movement in [("in", False, 0), ("in", 0, False), ("in", 0.0, 0), ["in", 0, 0], ("in", "0", 0)]:
            changed = ((((waits(0),), 1), movement),)
            value = tuple(sorted((dict(rows[0]) | dict(changed)).items())) if type(movement) is tuple else changed
            self.assertIs(check_game(ONE, ONE_PROMISES, ("ways", (value,) + rows[1:])), False)

    def test_sizes_end_soon(self):
        two = (8, 300, (400,) * 8, ((100, 400), (200, 500), (300, 300)), ((80, 500, 0, 4, 9), (90, 600, 0, 4, 1)), 3)
        three = (6, 300, (400,) * 6, ((100, 400), (200, 500)), ((80, 500, 0, 4, 1), (90, 600, 0, 4, 1), (90, 900, 0, 3, 9)), 3)
        kinds = []
        for port, promises in [
                (two, (("waits", 0, 30),)), (two, (("gone", 1, 7), ("waits", 0, 2))), (two, (("gone", 0, 7),)),
                (three, (("berthed", 2, 5),)), (three, (("gone", 0, 5), ("gone", 1, 5))), (three, (("roads", 4),))]:
            paper = game_paper(port, promises)
            kinds.append(paper[0])
            self.assertIs(check_game(port, promises, paper), True)
            self.assertIs(can_keep(port, promises), paper[0] == "ways")
        self.assertEqual(len(set(kinds)), 2)


if __name__ == "__main__":
    unittest.main()
