import random
import unittest

from odd_values import DEEP, ODD, with_changes
from plain_papers import larger_layers, parting_courses, right_likeness
from some_ports import P, plain_courses, plain_start, some_book, some_port
from test_courses import BOOK, LARGE

from tidewarden.likeness import are_alike, check_likeness, likeness_paper
from tidewarden.papers import book_paper

# Chooses otherwise than BOOK if the first vessel is alone in the roads at the tick 1.
OTHER = (((("tick", 1, 1), ("berthed", 0, 0)), ("none",)),) + BOOK
# The same as BOOK in other words.
SAME = (((("roads", 3, 9),), ("none",)), ((("tick", 0, 99),), ("out", "last"))) + BOOK[1:] + BOOK


def some_cases(seed, many, ticks=4, vessels=2):
    rng = random.Random(seed)
    for _ in range(many):
        port, one = some_port(rng, ticks, vessels), some_book(rng) + rng.choice(((), BOOK, BOOK[1:]))
        two = list(one)
        # Books that differ little part late, or not at all.
        for rule in rng.choice((some_book(rng), some_book(rng, 1), one[:1], BOOK[::-1])):
            two.insert(rng.randint(0, len(two)), rule)
        if rng.random() < 0.4:
            del two[rng.randrange(len(two) + 1):]
        yield rng, port, one, tuple(two)


class LikenessPaperTest(unittest.TestCase):
    def test_told_papers(self):
        self.assertEqual(likeness_paper(P, BOOK, ()), ("course", (((0, 1), ()),)))
        self.assertEqual(likeness_paper(P, (), BOOK), ("course", (((0, 1), ()),)))
        self.assertEqual(likeness_paper(P, (), (((("tick", 1, 1),), ("in", "first", "first")),) * 2)[0], "alike")
        self.assertEqual(
            likeness_paper(P, (), (((("tick", 3, 3),), ("in", "first", "first")),)),
            ("course", (((0, 1), ()), ((), ()), ((), ()), ((), ()))))
        self.assertIs(are_alike(P, BOOK, SAME), True)
        self.assertIs(are_alike(P, BOOK, BOOK[::-1]), True)
        self.assertIs(are_alike(P, BOOK, BOOK[1:]), False)
        # Only after a course in which the crane stopped.
        late = (((("tick", 2, 2), ("stops", 0, 0), ("roads", 1, 1), ("berthed", 1, 1)), ("none",)),) + BOOK
        self.assertEqual(likeness_paper(P, BOOK, late), ("course", (((0, 1), (0,)), ((), ()), ((), ()))))

    def test_alike_to_itself(self):
        for port in [P, LARGE[:4] + (LARGE[4][:2],) + LARGE[5:]]:
            for book in [(), BOOK, BOOK[::-1], OTHER, SAME]:
                paper = likeness_paper(port, book, book)
                self.assertEqual(paper[0], "alike")
                self.assertIs(check_likeness(port, book, book, paper), True)
                self.assertIs(are_alike(port, book, book), True)

    def test_some_cases(self):
        seen, lengths = {True: 0, False: 0}, {}
        for _, port, one, two in some_cases(1, 700):
            courses = parting_courses(port, one, two)
            seen[not courses] += 1
            self.assertIs(are_alike(port, one, two), not courses)
            paper = likeness_paper(port, one, two)
            if courses:
                first = min(courses, key=lambda course: (len(course), course))
                self.assertEqual(paper, ("course", first))
                lengths[len(first)] = lengths.get(len(first), 0) + 1
            else:
                self.assertEqual(paper[0], "alike")
            self.assertIs(right_likeness(port, one, two, paper), True)
            self.assertIs(check_likeness(port, one, two, paper), True)
        self.assertGreater(min(seen.values()), 100)
        self.assertEqual(sorted(lengths), [1, 2, 3, 4])


class CheckLikenessTest(unittest.TestCase):
    def test_all_courses(self):
        longer = 0
        for _, port, one, two in some_cases(2, 250):
            right = parting_courses(port, one, two)
            longer += len({len(course) for course in right}) > 1
            for ticks in range(port[0] + 1):
                for course, _ in plain_courses(port, one, ticks)[:60]:
                    self.assertIs(check_likeness(port, one, two, ("course", course)), course in right)
                    self.assertIs(check_likeness(port, one, two, ("alike", course)), False)
        self.assertGreater(longer, 10)

    def test_larger_layers(self):
        larger = 0
        for rng, port, one, two in some_cases(3, 150):
            paper = likeness_paper(port, one, two)
            if paper[0] == "alike":
                layers = larger_layers(rng, port, one, (), 0, paper[1])
                right = right_likeness(port, one, two, ("alike", layers))
                larger += layers != paper[1] and right
                self.assertIs(check_likeness(port, one, two, ("alike", layers)), right)
        self.assertGreater(larger, 15)

    def test_changed_layers(self):
        layers = likeness_paper(P, BOOK, SAME)[1]
        self.assertIs(check_likeness(P, BOOK, SAME, ("alike", layers)), True)
        for k, layer in enumerate(layers):
            others = [layers[:k] + layers[k + 1:], layers[:k] + (layer, layer) + layers[k + 1:]]
            changed = [layer[::-1], layer * 2, layer + layer[-1:], list(layer), ()]
            changed += [layer[:at] + layer[at + 1:] for at in range(len(layer))]
            for other in changed:
                if len(layer) > 1 or other != layer[::-1]:
                    others.append(layers[:k] + (other,) + layers[k + 1:])
            for other in others:
                self.assertIs(check_likeness(P, BOOK, SAME, ("alike", other)), False)
        for other in [layers + (layers[-1],), layers[::-1], list(layers), (), (layers,), layers[:1] * 5]:
            self.assertIs(check_likeness(P, BOOK, SAME, ("alike", other)), False)
        for word in ["Alike", "kept", "course", "", None]:
            self.assertIs(check_likeness(P, BOOK, SAME, (word, layers)), False)
        for value in [("alike",), ("alike", layers, layers), ["alike", layers]]:
            self.assertIs(check_likeness(P, BOOK, SAME, value), False)
        # Layers of the book that do not show a state in which the books part.
        self.assertIs(check_likeness(P, BOOK, OTHER, ("alike", book_paper(P, BOOK, ())[1])), True)
        self.assertIs(check_likeness(P, BOOK, BOOK[1:], ("alike", book_paper(P, BOOK, ())[1])), False)
        self.assertIs(check_likeness(P, BOOK, SAME, ("alike", book_paper(P, (), ())[1])), False)

    def test_a_state_that_is_never_met_counts(self):
        two = (((("berthed", 1, 1),), ("out", "first")),)
        layers = likeness_paper(P, (), two)[1]
        self.assertIs(check_likeness(P, (), two, ("alike", layers)), True)
        for place, right in [((2, 0, 1), True), ((2, 0, 0), False), ((3, 0, 0), True)]:
            larger = layers[:4] + (tuple(sorted(layers[4] + (((place, (1, 4, 0)), 1),))),)
            self.assertIs(check_likeness(P, (), two, ("alike", larger)), True)
            end = (((2, 0, 0) if place == (2, 0, 1) else place, (1, 4, 0)), 1)
            more = (end, (end[0], 0))
            larger = layers[:3] + (tuple(sorted(layers[3] + (((place, (1, 3, 0)), 1),))),) + (
                tuple(sorted(set(layers[4] + more + (((place, (1, 4, 0)), 0),)))),)
            self.assertIs(check_likeness(P, (), two, ("alike", larger)), right)

    def test_changed_courses(self):
        one = BOOK[1:]
        course = likeness_paper(P, one, BOOK)[1]
        self.assertEqual(course, (((0, 1), ()), ((), ()), ((), ())))
        other = (((1,), ()), ((0,), ()), ((), ()))
        for value, right in [
                (course, True), (other, True), (course[:2], False), (course[:1], False), ((), False),
                (course + (((), ()),), False), (course[:2] + (((), (0,)),), False), (other[:2] + (((), (0,)),), False),
                ((((0, 1), (0,)), ((), ()), ((), ())), True), ((((0, 1), ()), ((), (0,)), ((), ())), False),
                ((((1,), (0,)), ((0,), ()), ((), ())), False), ((((1,), (0,)), ((0,), ()), ((), ()), ((), ())), True),
                (list(course), False), (course[::-1], False), ((course,), False), (course[1:], False)]:
            self.assertIs(right_likeness(P, one, BOOK, ("course", value)), right, value)
            self.assertIs(check_likeness(P, one, BOOK, ("course", value)), right, value)
        # The last tick has no stops, although the crane could stop at it.
        first = (((0, 1), ()),)
        self.assertIs(check_likeness(P, (), BOOK, ("course", first)), True)
        self.assertIs(check_likeness(P, BOOK, (), ("course", first)), True)
        self.assertIs(check_likeness(P, BOOK, (), ("course", (((0, 1), (0,)),))), False)
        # It can happen with the first book.
        stopped = (((0, 1), (0,)), ((), ()), ((), ()))
        self.assertIs(check_likeness(P, one, BOOK, ("course", stopped)), True)
        self.assertIs(check_likeness(P, (), BOOK, ("course", stopped)), False)

    def test_changes_by_the_words(self):
        taken = refused = 0
        for _, port, one, two in some_cases(4, 60, 3):
            paper = likeness_paper(port, one, two)
            if len(repr(paper)) > 1000:
                continue
            for value in with_changes(paper):
                right = right_likeness(port, one, two, value)
                self.assertIs(check_likeness(port, one, two, value), right, value)
                taken, refused = taken + right, refused + (not right)
        self.assertGreater(refused, 5000)
        self.assertGreater(taken, 3)

    def test_any_value(self):
        layers = likeness_paper(P, BOOK, SAME)[1]
        for value in ODD + DEEP:
            for two in [SAME, ()]:
                self.assertIs(check_likeness(P, BOOK, two, value), False)
                for word in ("alike", "course"):
                    for part in [value, (value,), (value,) * 5, ((value, ()),), layers[:4] + (value,),
                                 layers[:4] + ((value,),), (((0, 1), ()), value)]:
                        self.assertIs(check_likeness(P, BOOK, two, (word, part)), False)
                    right = type(value) is tuple and len(value) == 0 and (word, two) == ("course", ())
                    self.assertIs(check_likeness(P, BOOK, two, (word, (((0, 1), value),))), right)

    def test_sizes_end_soon(self):
        last = (((("tick", 15, 15),), ("in", "first", "first")),) + BOOK
        for two, word in [(SAME[:1] + BOOK, "course"), (last, "course"), (BOOK + BOOK, "alike"), (BOOK[::-1], "course")]:
            paper = likeness_paper(LARGE, BOOK, two)
            self.assertEqual(paper[0], word)
            self.assertIs(check_likeness(LARGE, BOOK, two, paper), True)


if __name__ == "__main__":
    unittest.main()
