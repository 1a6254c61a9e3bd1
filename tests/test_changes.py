import random
import unittest

from odd_values import DEEP, ODD, with_changes
from plain_papers import (
    breaking_ways, end_of, keeps_from, larger_layers, pairs_of, plain_harm, right_change, unbroken_starts)
from some_ports import P, plain_start, plain_ticks, some_book, some_port, some_promise
from test_courses import BOOK, LARGE

from tidewarden.changes import change_paper, check_change, does_harm
from tidewarden.papers import keeps

# BOOK keeps these from the start, and the empty book does not.
PROMISES = (("roads", 1),)
GONE = (("gone", 0, 3),)
# It breaks them at any tick if it takes the place of BOOK before.
WAITS = (("waits", 1, 3),)


def some_cases(seed, many, ticks=4, vessels=2):
    rng = random.Random(seed)
    for _ in range(many):
        port, old = some_port(rng, ticks, vessels), some_book(rng, 2) + rng.choice(((), BOOK, BOOK[1:]))
        new = rng.choice((old, (), some_book(rng), some_book(rng) + BOOK, BOOK))
        yield rng, port, old, new, tuple(some_promise(rng, port) for _ in range(rng.choice((0, 1, 1, 2))))


def layers_from(port, book, tick, state):
    """The layers from a state at a tick that hold no more than what can happen."""
    layers = [{state}]
    for at in range(tick, port[0]):
        layers.append({row[4] for now in layers[-1] for row in plain_ticks(port, book, at, now)})
    return tuple(tuple(sorted(layer)) for layer in layers)


def harm_cases(seed, many):
    """Cases in which the old book keeps a promise."""
    found = 0
    for rng, port, old, new, _ in some_cases(seed, 99999):
        promises = [some_promise(rng, port) for _ in range(8)]
        kept = [promise for promise in promises if keeps(port, old, (promise,)) and not keeps(port, new, (promise,))]
        if kept and port[0] > 2:
            found += 1
            yield port, old, new, tuple(kept[:2])
        if found == many:
            break


class ChangePaperTest(unittest.TestCase):
    def test_told_papers(self):
        self.assertIs(does_harm(P, BOOK, (), 0, PROMISES), True)
        self.assertEqual(change_paper(P, BOOK, (), 0, PROMISES)[:2], ("harm", (((0, 1), ()),)))
        self.assertIs(does_harm(P, (), BOOK, 0, PROMISES), False)
        self.assertEqual(
            change_paper(P, (), (), 0, PROMISES),
            ("safe", ((plain_start(P),),), (("way", (((0, 1), ()),)),)))
        self.assertEqual([does_harm(P, BOOK, (), tick, WAITS) for tick in range(4)], [True] * 4)
        self.assertEqual([does_harm(P, (), BOOK, tick, WAITS) for tick in range(4)], [False] * 4)
        self.assertEqual(
            change_paper(P, (), BOOK, 2, (("roads", 0),)), ("safe", ((plain_start(P),), (), ()), ()))

    def test_the_same_book_and_the_empty_one(self):
        for promises in [(), PROMISES, GONE, (("roads", 0),), (("afloat",),), (("waits", 0, 2),)]:
            for book in [(), BOOK, BOOK[1:]]:
                for tick in range(P[0]):
                    self.assertIs(does_harm(P, book, book, tick, promises), False)
                    for new in [book, (), BOOK]:
                        paper = change_paper(P, book, new, tick, promises)
                        self.assertIs(right_change(P, book, new, tick, promises, paper), True)
                        self.assertIs(check_change(P, book, new, tick, promises, paper), True)

    def test_some_cases(self):
        seen = {}
        for _, port, old, new, promises in some_cases(1, 400):
            for tick in range(port[0]):
                harm = plain_harm(port, old, new, tick, promises)
                self.assertIs(does_harm(port, old, new, tick, promises), harm)
                paper = change_paper(port, old, new, tick, promises)
                self.assertEqual(paper[0], "harm" if harm else "safe")
                self.assertIs(right_change(port, old, new, tick, promises, paper), True)
                self.assertIs(check_change(port, old, new, tick, promises, paper), True)
                seen[harm, tick, keeps(port, old, promises)] = seen.get((harm, tick, keeps(port, old, promises)), 0) + 1
        # Harm can be done also where the old book does not keep the promises in all courses.
        self.assertGreaterEqual(min([seen.get((True, tick, True), 0) for tick in range(3)]), 3)
        self.assertGreater(sum([seen.get((True, tick, False), 0) for tick in range(1, 4)]), 3)
        self.assertGreaterEqual(min([seen.get((False, tick, kept), 0) for tick in range(4) for kept in (True, False)]), 10)


class CheckChangeTest(unittest.TestCase):
    def test_all_courses_of_harm(self):
        taken = 0
        for port, old, new, promises in harm_cases(2, 60):
            for tick in range(port[0]):
                if not plain_harm(port, old, new, tick, promises):
                    continue
                layers = {}
                for start in unbroken_starts(port, old, tick, promises)[:20]:
                    state = end_of(port, start)
                    kept = keeps_from(port, old, promises, tick, state)
                    if kept and state not in layers:
                        layers[state] = layers_from(port, old, tick, state)
                    told = layers.get(state, change_paper(port, old, new, tick, promises)[2])
                    for way in breaking_ways(port, new, promises, tick, state)[:20]:
                        value = ("harm", pairs_of(start) + way, told)
                        self.assertIs(check_change(port, old, new, tick, promises, value), kept)
                        taken += kept
                        for k in range(len(value[1])):
                            short = ("harm", value[1][:k], told)
                            self.assertIs(check_change(port, old, new, tick, promises, short), False)
        self.assertGreater(taken, 100)

    def test_larger_layers_and_other_ways(self):
        larger = others = 0
        for rng, port, old, new, promises in some_cases(3, 120, 3):
            for tick in range(port[0]):
                paper = change_paper(port, old, new, tick, promises)
                if paper[0] == "harm":
                    layers = larger_layers(rng, port, old, promises, tick, paper[2])
                    larger += layers != paper[2]
                    self.assertIs(check_change(port, old, new, tick, promises, paper[:2] + (layers,)), True)
                    continue
                answers = []
                for state, answer in zip(paper[1][-1], paper[2]):
                    ways = breaking_ways(port, old, promises, tick, state)
                    if ways:
                        answers.append(("way", rng.choice(ways)))
                    else:
                        answers.append(("kept", larger_layers(rng, port, new, promises, tick, answer[1])))
                value = ("safe", paper[1], tuple(answers))
                others += value != paper
                self.assertIs(right_change(port, old, new, tick, promises, value), True)
                self.assertIs(check_change(port, old, new, tick, promises, value), True)
        self.assertGreater(larger, 3)
        self.assertGreater(others, 50)

    def test_larger_layers_before_the_change(self):
        # The second vessel could be gone already, if the layers are larger than needed.
        extra = (((0, 0, 0), (3, 0, 0)), 0)
        promises = WAITS
        paper = change_paper(P, BOOK, (), 1, promises)
        self.assertEqual(paper[0], "harm")
        paper = change_paper(P, BOOK, BOOK, 1, promises)
        more = dict(zip(paper[1][1], paper[2]))
        more[extra] = ("kept", layers_from(P, BOOK, 1, extra))
        value = ("safe", (paper[1][0], tuple(sorted(more))), tuple(more[state] for state in sorted(more)))
        self.assertIs(check_change(P, BOOK, BOOK, 1, promises, value), True)
        self.assertIs(right_change(P, BOOK, BOOK, 1, promises, value), True)
        # Each of them must have its answer, and the answer must be right.
        for other in [value[2][:-1], value[2] + value[2][-1:], paper[2], value[2][::-1], list(value[2]), ()]:
            self.assertIs(check_change(P, BOOK, BOOK, 1, promises, value[:2] + (other,)), False)
        self.assertIs(check_change(P, BOOK, (), 1, promises, value), False)

    def test_refused_harm(self):
        paper = change_paper(P, BOOK, (), 1, (("roads", 1), ("waits", 1, 3)))
        self.assertEqual(paper[0], "harm")
        word, course, layers = paper
        arguments = (P, BOOK, (), 1, (("roads", 1), ("waits", 1, 3)))
        self.assertIs(check_change(*arguments, paper), True)
        for value in [
                ("harm", course), ("harm", course, layers, ()), ("harm", layers, course), ("safe", course, layers),
                list(paper), (None, course, layers), ("harm", course[:1], layers), ("harm", (), layers),
                ("harm", course + (((), ()),), layers), ("harm", list(course), layers), ("harm", course, list(layers)),
                ("harm", course, layers[1:]), ("harm", course, layers[:-1]), ("harm", course, layers + layers[-1:]),
                ("harm", course, layers[::-1]), ("harm", course, ()), ("harm", course[::-1], layers)]:
            self.assertIs(check_change(*arguments, value), False, value)
        for k, layer in enumerate(layers):
            for other in [layer[1:], layer[:-1], layer[::-1], layer * 2, ()]:
                if len(layer) > 1 or other != layer:
                    value = ("harm", course, layers[:k] + (other,) + layers[k + 1:])
                    self.assertIs(check_change(*arguments, value), False)
        # The same course and layers for other books, ticks or promises.
        for other in [(P, (), BOOK, 1), (P, BOOK, BOOK, 1), (P, (), (), 1), (P, BOOK, (), 0), (P, BOOK, (), 2)]:
            value = check_change(*other, arguments[4], paper)
            self.assertIs(value, right_change(*other, arguments[4], paper))
            self.assertIs(value, False)
        self.assertIs(check_change(*arguments[:4], (), paper), False)
        self.assertIs(check_change(*arguments[:4], (("roads", 0),) + arguments[4], paper), False)

    def test_harm_with_a_promise_broken_before(self):
        course = (((0, 1), ()),) + (((), ()),) * 3
        kept = layers_from(P, BOOK, 2, (((2, 0, 0), (1, 2, 0)), 1))
        for promises, right in [(WAITS, True), (WAITS + (("berthed", 1, 0),), False), (WAITS + (("berthed", 0, 0),), True)]:
            self.assertIs(right_change(P, BOOK, (), 2, promises, ("harm", course, kept)), right)
            self.assertIs(check_change(P, BOOK, (), 2, promises, ("harm", course, kept)), right)

    def test_refused_safe(self):
        for arguments in [(P, (), BOOK, 2, WAITS), (P, BOOK, BOOK, 2, WAITS), (P, BOOK, BOOK[1:], 2, (("roads", 1),))]:
            paper = change_paper(*arguments)
            self.assertEqual(paper[0], "safe")
            word, layers, answers = paper
            self.assertIs(check_change(*arguments, paper), True)
            for value in [
                    ("safe", layers), ("safe", layers, answers, ()), ("safe", answers, layers), ("harm", layers, answers),
                    list(paper), ("safe", list(layers), answers), ("safe", layers, list(answers)), ("safe", layers[1:], answers),
                    ("safe", layers[:2], answers), ("safe", layers + layers[-1:], answers), ("safe", (), ()),
                    ("safe", ((),) * 3, ()), ("safe", layers, answers + (("kept", ()),)), ("safe", layers, (answers,))]:
                self.assertIs(check_change(*arguments, value), False)
            for k, layer in enumerate(layers):
                for other in [layer[1:], layer[:-1], layer[::-1], layer * 2, layer + layer[-1:]]:
                    if other != layer:
                        told = answers[:len(other)] if k == 2 else answers
                        value = ("safe", layers[:k] + (other,) + layers[k + 1:], told)
                        self.assertIs(check_change(*arguments, value), False)
            for k in range(len(answers)):
                for other in [("kept", ()), ("way", ()), ("way", answers[k][1][:0]), answers[k][::-1], ("kept",), (), None]:
                    value = ("safe", layers, answers[:k] + (other,) + answers[k + 1:])
                    self.assertIs(check_change(*arguments, value), False)
            for k in range(len(answers) - 1):
                value = ("safe", layers, answers[:k] + (answers[k + 1], answers[k]) + answers[k + 2:])
                self.assertIs(check_change(*arguments, value), right_change(*arguments, value))

    def test_answers_of_the_other_book(self):
        # Layers must be of the new book, and ways of the old one.
        start = (plain_start(P),)
        kept = layers_from(P, BOOK, 0, plain_start(P))
        self.assertIs(check_change(P, (), BOOK, 0, PROMISES, ("safe", (start,), (("kept", kept),))), True)
        self.assertIs(check_change(P, BOOK, (), 0, PROMISES, ("safe", (start,), (("kept", kept),))), False)
        way = (((0, 1), ()),)
        self.assertIs(check_change(P, (), BOOK, 0, PROMISES, ("safe", (start,), (("way", way),))), True)
        self.assertIs(check_change(P, BOOK, (), 0, PROMISES, ("safe", (start,), (("way", way),))), False)
        self.assertIs(check_change(P, BOOK, (), 0, PROMISES, ("harm", way, kept)), True)
        self.assertIs(check_change(P, (), BOOK, 0, PROMISES, ("harm", way, kept)), False)
        self.assertIs(check_change(P, BOOK, (), 0, PROMISES, ("harm", way, layers_from(P, (), 0, plain_start(P)))), False)

    def test_ways_that_are_longer_than_the_day(self):
        # The promise would be broken behind the last tick of the day.
        promises = (("waits", 1, 4),)
        _, layers, answers = change_paper(P, (), BOOK, 2, promises)
        self.assertEqual(len(answers), 2)
        for many in (2, 3):
            ways = ((("way", (((), ()),) * many),) * 2)
            self.assertIs(check_change(P, (), BOOK, 2, promises, ("safe", layers, ways)), False)
            self.assertIs(check_change(P, (), BOOK, 2, (("waits", 1, 3),), ("safe", layers, ways)), many == 2)
            course = (((0, 1), ()),) + (((), ()),) * (many + 1)
            kept = layers_from(P, BOOK, 2, (((1, 2, 0), (1, 2, 0)), 1))
            self.assertIs(check_change(P, BOOK, (), 2, promises, ("harm", course, kept)), False)

    def test_changes_by_the_words(self):
        taken = refused = 0
        for rng, port, old, new, promises in some_cases(4, 70, 3):
            tick = rng.randrange(port[0])
            paper = change_paper(port, old, new, tick, promises)
            if len(repr(paper)) > 700:
                continue
            for value in with_changes(paper):
                right = right_change(port, old, new, tick, promises, value)
                self.assertIs(check_change(port, old, new, tick, promises, value), right, value)
                taken, refused = taken + right, refused + (not right)
        self.assertGreater(refused, 3000)

    def test_any_value(self):
        start = (plain_start(P),)
        way = (((0, 1), ()),)
        kept = layers_from(P, BOOK, 0, plain_start(P))
        for value in ODD + DEEP:
            for old, new in [((), BOOK), (BOOK, ())]:
                self.assertIs(check_change(P, old, new, 0, PROMISES, value), False)
                for paper in [
                        ("safe", value, value), ("safe", (value,), (("way", way),)), ("safe", ((value,),), (("way", way),)),
                        ("safe", (start,), value), ("safe", (start,), (value,)), ("safe", (start,), (("way", value),)),
                        ("safe", (start,), (("kept", value),)), ("safe", (start,), (("kept", kept[:4] + (value,)),)),
                        ("harm", value, kept), ("harm", way, value), ("harm", (value,), kept), ("harm", (((0, 1), value),) * 2, kept),
                        ("harm", ((value, ()),), kept), ("harm", way, kept[:4] + ((value,),)), ("harm", value, value)]:
                    self.assertIs(check_change(P, old, new, 0, PROMISES, paper), False)

    def test_sizes_end_soon(self):
        promises = (("waits", 0, 16), ("roads", 4), ("waits", 3, 16), ("waits", 2, 16))
        for new, tick in [(BOOK[::-1], 5), ((), 7)]:
            paper = change_paper(LARGE, BOOK, new, tick, promises)
            self.assertEqual(paper[0], "safe")
            self.assertIs(check_change(LARGE, BOOK, new, tick, promises, paper), True)
        promises = (("waits", 0, 16), ("roads", 3))
        self.assertIs(does_harm(LARGE, BOOK, (), 4, promises), True)


if __name__ == "__main__":
    unittest.main()
