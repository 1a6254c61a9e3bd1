import random
import unittest

from odd_values import DEEP, ODD, with_changes
from plain_papers import breaking_ways, is_unbroken, larger_layers, right_book, right_layers
from some_ports import P, WIDE, plain_courses, plain_start, some_book, some_port, some_promise
from test_courses import BOOK, LARGE

from tidewarden.papers import book_paper, check_book, keeps

GONE_PROMISES = (("gone", 0, 3),)
KEPT_PROMISES = (("roads", 1), ("waits", 0, 3), ("waits", 1, 4))


def some_cases(seed, many, ticks=4, vessels=2):
    rng = random.Random(seed)
    for _ in range(many):
        port = some_port(rng, ticks, vessels)
        yield rng, port, some_book(rng), tuple(some_promise(rng, port) for _ in range(rng.choice((0, 1, 1, 2, 3))))


def rows_of(course, triples):
    return [pair + triple for pair, triple in zip(course, triples)]


class BookPaperTest(unittest.TestCase):
    def test_told_papers(self):
        self.assertEqual(
            book_paper(P, BOOK, GONE_PROMISES), ("course", (((1,), ()), ((0,), ()), ((), ()), ((), ()))))
        self.assertEqual(book_paper(P, BOOK, (("roads", 0),)), ("course", (((0, 1), ()),)))
        self.assertEqual(book_paper(P, (), (("gone", 0, 0), ("gone", 1, 0))), ("course", (((0, 1), ()),)))
        self.assertEqual(
            book_paper(P, (), ()),
            ("kept", (
                (plain_start(P),),) + tuple((
                    (((0, 0, 0), (1, k, 0)), 1), (((1, k, 0), (1, k, 0)), 1))[k > 1:] if k == 1 else tuple(sorted({
                        (((1, k - 1, 0), (1, k, 0)), 1), (((1, k, 0), (1, k, 0)), 1)})) for k in range(1, 5))))

    def test_no_promises(self):
        for port in [P, WIDE[:4] + (WIDE[4][:2],) + WIDE[5:]]:
            for book in [(), BOOK, BOOK[::-1]]:
                paper = book_paper(port, book, ())
                self.assertEqual(paper[0], "kept")
                self.assertIs(right_book(port, book, (), paper), True)
                self.assertIs(check_book(port, book, (), paper), True)
                self.assertIs(keeps(port, book, ()), True)
                self.assertEqual(len(paper[1]), port[0] + 1)

    def test_some_cases(self):
        seen = {True: 0, False: 0}
        for _, port, book, promises in some_cases(1, 500):
            courses = [rows_of(*row) for row in plain_courses(port, book, port[0])]
            kept = all(is_unbroken(port, promises, 0, rows) for rows in courses)
            seen[kept] += 1
            self.assertIs(keeps(port, book, promises), kept)
            paper = book_paper(port, book, promises)
            if kept:
                self.assertEqual(paper[0], "kept")
            else:
                ways = breaking_ways(port, book, promises, 0, plain_start(port))
                self.assertEqual(paper, ("course", min(ways, key=lambda way: (len(way), way))))
            self.assertIs(right_book(port, book, promises, paper), True)
            self.assertIs(check_book(port, book, promises, paper), True)
        self.assertGreater(min(seen.values()), 150)


class CheckBookTest(unittest.TestCase):
    def test_all_courses(self):
        longer = 0
        for _, port, book, promises in some_cases(2, 120, 4, 2):
            right = breaking_ways(port, book, promises, 0, plain_start(port))
            longer += len({len(way) for way in right}) > 1
            for ticks in range(port[0] + 1):
                for course, _ in plain_courses(port, book, ticks)[:60]:
                    self.assertIs(check_book(port, book, promises, ("course", course)), course in right)
                    self.assertIs(check_book(port, book, promises, ("kept", course)), False)
        self.assertGreater(longer, 10)

    def test_larger_layers(self):
        larger = 0
        for rng, port, book, promises in some_cases(3, 120, 4, 2):
            paper = book_paper(port, book, promises)
            if paper[0] == "kept":
                layers = larger_layers(rng, port, book, promises, 0, paper[1])
                larger += layers != paper[1]
                self.assertIs(right_layers(port, book, promises, 0, plain_start(port), layers), True)
                self.assertIs(check_book(port, book, promises, ("kept", layers)), True)
        self.assertGreater(larger, 20)

    def test_changed_layers(self):
        layers = book_paper(P, BOOK, KEPT_PROMISES)[1]
        self.assertIs(check_book(P, BOOK, KEPT_PROMISES, ("kept", layers)), True)
        for k, layer in enumerate(layers):
            others = [layers[:k] + layers[k + 1:], layers[:k] + (layer, layer) + layers[k + 1:]]
            changed = [layer[::-1], layer * 2, layer + layer[-1:], list(layer), ()]
            changed += [layer[:at] + layer[at + 1:] for at in range(len(layer))]
            changed += [layer[:at] + (state, state) + layer[at + 1:] for at, state in enumerate(layer)]
            # All that is left out is met, since no state stands there without need.
            for other in changed:
                if len(layer) > 1 or other != layer[::-1]:
                    others.append(layers[:k] + (other,) + layers[k + 1:])
            for other in others:
                self.assertIs(check_book(P, BOOK, KEPT_PROMISES, ("kept", other)), False, other)
        for other in [layers + (layers[-1],), layers[::-1], list(layers), (), (layers,), layers[:1] * 5]:
            self.assertIs(check_book(P, BOOK, KEPT_PROMISES, ("kept", other)), False)
        for word in ["Kept", "kept ", "course", "way", "", b"kept", None, 0]:
            self.assertIs(check_book(P, BOOK, KEPT_PROMISES, (word, layers)), False)
        for value in [("kept",), ("kept", layers, layers), ["kept", layers], ("kept", layers, ())]:
            self.assertIs(check_book(P, BOOK, KEPT_PROMISES, value), False)

    def test_layers_of_a_broken_promise(self):
        for promises in [GONE_PROMISES, (("roads", 0),), (("roads", 2), ("waits", 0, 1)), (("gone", 1, 0),)]:
            layers = book_paper(P, BOOK, ())[1]
            self.assertIs(check_book(P, BOOK, (), ("kept", layers)), True)
            self.assertIs(check_book(P, BOOK, promises, ("kept", layers)), False)
        # A state that is never met counts as well: from it a promise is broken at the last tick.
        layers = book_paper(P, (), (("waits", 0, 4),))[1]
        for state, right in [((((1, 4, 0), (1, 4, 0)), 1), False), ((((3, 0, 0), (1, 3, 0)), 0), True)]:
            larger = layers[:3] + (tuple(sorted(layers[3] + (state,))),) + (
                tuple(sorted(layers[4] + ((((3, 0, 0), (1, 4, 0)), 0),))),)
            self.assertIs(check_book(P, (), (("waits", 0, 4),), ("kept", larger)), right)

    def test_changed_courses(self):
        course = book_paper(P, BOOK, GONE_PROMISES)[1]
        for value in [
                course[:3], course[:1], (), course + (((), ()),), list(course), course[::-1], course[:3] + (((0,), ()),),
                course[:3] + (((), (0,)), ((), ())), (course,), course[:3] + (((), ()), ((), ()))]:
            self.assertIs(check_book(P, BOOK, GONE_PROMISES, ("course", value)), False)
        # A promise that breaks earlier, or none at the last tick.
        self.assertIs(check_book(P, BOOK, GONE_PROMISES + (("waits", 0, 0),), ("course", course)), False)
        self.assertIs(check_book(P, BOOK, GONE_PROMISES + (("waits", 0, 0),), ("course", course[:2])), True)
        self.assertIs(check_book(P, BOOK, (("gone", 1, 3),), ("course", course)), False)
        self.assertIs(check_book(P, BOOK, (), ("course", course)), False)

    def test_courses_that_are_longer_than_the_day(self):
        # The promise would be broken behind the last tick of the day.
        course = (((0, 1), ()),) + (((), ()),) * 4
        self.assertIs(check_book(P, (), (("waits", 1, 4),), ("course", course)), False)
        self.assertIs(check_book(P, (), (("waits", 1, 3),), ("course", course[:4])), True)
        self.assertIs(keeps(P, (), (("waits", 1, 4),)), True)

    def test_changes_by_the_words(self):
        taken = refused = 0
        for _, port, book, promises in some_cases(4, 60, 3, 2):
            paper = book_paper(port, book, promises)
            if sum(map(len, paper[1])) > 20:
                continue
            for value in with_changes(paper):
                right = right_book(port, book, promises, value)
                self.assertIs(check_book(port, book, promises, value), right, value)
                taken, refused = taken + right, refused + (not right)
        self.assertGreater(refused, 5000)
        self.assertGreater(taken, 5)

    def test_any_value(self):
        layers = book_paper(P, BOOK, KEPT_PROMISES)[1]
        for value in ODD + DEEP:
            self.assertIs(check_book(P, BOOK, GONE_PROMISES, value), False)
            for word in ("kept", "course"):
                for part in [value, (value,), (value,) * 5, ((value, ()),), (((1,), value),), layers[:4] + (value,),
                             layers[:4] + ((value,),), layers[:4] + (layers[4] + (value,),), ((value, 1),)]:
                    self.assertIs(check_book(P, BOOK, GONE_PROMISES, (word, part)), False)
                    self.assertIs(check_book(P, BOOK, KEPT_PROMISES, (word, part)), False)

    def test_sizes_end_soon(self):
        for promises, word in [
                ((("waits", 0, 16), ("roads", 4), ("afloat",)), "course"), ((("gone", 3, 15),), "course"),
                ((("waits", 0, 16), ("roads", 4), ("waits", 3, 16), ("waits", 2, 16)), "kept")]:
            paper = book_paper(LARGE, BOOK, promises)
            self.assertEqual(paper[0], word)
            self.assertIs(check_book(LARGE, BOOK, promises, paper), True)


if __name__ == "__main__":
    unittest.main()
