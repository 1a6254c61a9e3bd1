import itertools
import random
import unittest

from odd_values import DEEP, ODD, with_changes
from some_ports import AWAY, GONE, P, lies, plain_courses, plain_start, plain_tick, some_book, some_port, subsets, waits

from tidewarden.courses import courses, first_course, is_course, run, run_with
from tidewarden.errors import BadCourse, PortError

BOOK = (((), ("out", "first")), ((), ("in", "first", "first")))
COURSE = (((1,), ()), ((0,), ()), ((), ()), ((), ()))
# 16 ticks, windows of 4 ticks at the same time, and all berths and stops.
LARGE = (
    16, 300, (200, 300, 400, 500) * 4, ((100, 400), (200, 500), (300, 300)),
    ((80, 500, 0, 4, 9), (90, 600, 0, 4, 9), (60, 650, 0, 4, 9), (300, 600, 0, 4, 9)), 3)


def some_cases(seed, many, ticks=4, vessels=2, berths=2):
    rng = random.Random(seed)
    for _ in range(many):
        port = some_port(rng, ticks, vessels, berths)
        yield rng, port, some_book(rng)


def all_pairs(port):
    """Each pair of ascending tuples of vessels and berths, whether it can happen or not."""
    return list(itertools.product(subsets(range(len(port[4]))), subsets(range(len(port[3])))))


class RunTest(unittest.TestCase):
    def refused(self, tick, function, *arguments):
        with self.assertRaises(PortError) as caught:
            function(*arguments)
        self.assertIs(type(caught.exception), BadCourse)
        self.assertIs(type(caught.exception.tick), int)
        self.assertEqual(caught.exception.tick, tick, arguments)

    def test_told_course(self):
        triples = [
            (("in", 1, 0), ((AWAY, lies(0, 2)), 1), ((AWAY, lies(0, 1)), 1)),
            (("none",), ((waits(0), lies(0, 1)), 1), ((waits(1), lies(0, 0)), 1)),
            (("out", 1), ((waits(1), GONE), 1), ((waits(2), GONE), 1)),
            (("in", 0, 0), ((lies(0, 1), GONE), 1), ((lies(0, 0), GONE), 1))]
        for ticks in range(5):
            self.assertEqual(run(P, BOOK, COURSE[:ticks]), triples[:ticks])
            movements = tuple(triple[0] for triple in triples[:ticks])
            self.assertEqual(run_with(P, movements, COURSE[:ticks]), triples[:ticks])
        self.assertIs(type(run(P, BOOK, COURSE)), list)
        self.assertTrue(all(type(triple) is tuple for triple in run(P, BOOK, COURSE)))

    def test_stops(self):
        course = (((1,), (0,)), ((0,), ()), ((), ()), ((), ()))
        self.assertEqual([after for _, _, after in run(P, BOOK, course)], [
            ((AWAY, lies(0, 2)), 0), ((waits(1), lies(0, 1)), 0), ((waits(2), lies(0, 0)), 0), ((waits(3), GONE), 0)])
        self.refused(1, run, P, BOOK, (((1,), (0,)), ((0,), (0,))))
        self.refused(0, run, P, BOOK, (((1,), (1,)),))
        self.refused(0, run, P, BOOK, (((1,), (0, 0)),))

    def test_arrivals_that_cannot_happen(self):
        for tick, course in [
                (0, (((), ()),)), (0, (((0,), ()),)), (0, (((1, 0), ()),)), (0, (((1, 1), ()),)), (0, (((1, 2), ()),)),
                (0, (((-1,), ()),)), (1, (((1,), ()), ((), ()))), (1, (((1,), ()), ((0, 1), ()))),
                (1, (((0, 1), ()), ((0,), ()))), (2, (((0, 1), ()), ((), ()), ((0,), ()))),
                (3, COURSE[:3] + (((7,), ()),)), (3, COURSE[:3] + (((), (5,)),))]:
            self.refused(tick, run, P, BOOK, course)
            self.refused(tick, run, P, BOOK, course + (((9,), (9,)),))
            movements = (("in", 1, 0),) + (("none",),) * 9
            if tick < 3:
                self.refused(tick, run_with, P, movements[:len(course)], course)

    def test_movements_that_cannot_happen(self):
        movements = (("in", 1, 0), ("none",), ("out", 1), ("in", 0, 0))
        for tick in range(4):
            for other in [("out", 0), ("in", 1, 1), ("in", 1, 0) if tick else ("out", 1), ("fly", 1), ("none", 1), ("in",)]:
                changed = movements[:tick] + (other,) + movements[tick + 1:]
                self.refused(tick, run_with, P, changed, COURSE)
                self.refused(tick, run_with, P, changed[:tick + 1], COURSE[:tick + 1])
                self.assertEqual(len(run_with(P, changed[:tick], COURSE[:tick])), tick)
        self.assertEqual(
            run_with(P, (("none",),) * 4, COURSE)[-1],
            (("none",), ((waits(2), waits(3)), 1), ((waits(3), waits(4)), 1)))

    def test_some_cases(self):
        seen = 0
        for rng, port, book in some_cases(1, 60):
            for ticks in range(port[0] + 1):
                for course, triples in plain_courses(port, book, ticks)[:40]:
                    seen += 1
                    self.assertEqual(run(port, book, course), list(triples))
                    movements = tuple(triple[0] for triple in triples)
                    self.assertEqual(run_with(port, movements, course), list(triples))
        self.assertGreater(seen, 500)

    def test_some_pairs(self):
        bad = 0
        for rng, port, book in some_cases(2, 400):
            pairs = all_pairs(port) + [((0, 0), ()), ((), (0, 0)), ((9,), ()), ((), (9,))]
            rows = plain_courses(port, book, port[0])
            course = list(rng.choice(rows)[0])
            course[rng.randrange(port[0])] = rng.choice(pairs)
            course = tuple(course)
            told = max(
                ticks for ticks in range(port[0] + 1)
                if course[:ticks] in [known for known, _ in plain_courses(port, book, ticks)])
            if told < port[0]:
                bad += 1
                self.refused(told, run, port, book, course)
                self.assertIs(is_course(port, book, course), False)
                self.assertIs(is_course(port, book, course[:told]), True)
            else:
                self.assertEqual(len(run(port, book, course)), port[0])
                self.assertIs(is_course(port, book, course), True)
        self.assertGreater(bad, 100)

    def test_some_movements(self):
        bad = 0
        for rng, port, _ in some_cases(3, 400):
            course, triples = rng.choice(plain_courses(port, some_book(rng), port[0]))
            movements = [triple[0] for triple in triples]
            movements[rng.randrange(port[0])] = rng.choice((("in", 0, 0), ("out", 0), ("none",), ("in", 1, 1)))
            state, told = plain_start(port), []
            for tick, (arrivals, stops) in enumerate(course):
                done = plain_tick(port, tick, state, arrivals, movements[tick], stops)
                if done is None:
                    break
                told.append((movements[tick], *done))
                state = done[1]
            if len(told) < port[0]:
                bad += 1
                self.refused(len(told), run_with, port, tuple(movements), course)
            else:
                self.assertEqual(run_with(port, tuple(movements), course), told)
        self.assertGreater(bad, 100)


class IsCourseTest(unittest.TestCase):
    def test_courses(self):
        for ticks in range(5):
            self.assertIs(is_course(P, BOOK, COURSE[:ticks]), True)
        self.assertIs(is_course(P, BOOK, COURSE + (((), ()),)), False)
        self.assertIs(is_course(P, BOOK, COURSE + (((), ()),) * 3), False)

    def test_all_pairs_of_small_ports(self):
        for _, port, book in some_cases(4, 25, 3, 2, 1):
            for ticks in range(port[0] + 1):
                right = {course for course, _ in plain_courses(port, book, ticks)}
                for course in itertools.product(all_pairs(port), repeat=ticks):
                    self.assertIs(is_course(port, book, course), course in right)

    def test_forms(self):
        for value in [
                list(COURSE), COURSE[:3] + ([(), ()],), COURSE[:3] + (((),),), COURSE[:3] + (((), (), ()),),
                (([1], ()),), (((1,), []),), (((True,), ()),), (((1.0,), ()),), ((("1",), ()),), (((1,), (False,)),),
                (((1,), None),), ((1, ()),), (((1,), 0),), (((1, None), ()),), ((((1,),), ()),), ((1,), ()), "", None]:
            self.assertIs(is_course(P, BOOK, value), False, value)
        for value in ODD + DEEP:
            self.assertIs(is_course(P, BOOK, value), type(value) is tuple and len(value) == 0)
            self.assertIs(is_course(P, BOOK, (value,)), False)
            self.assertIs(is_course(P, BOOK, ((value, ()),)), False)
            self.assertIs(is_course(P, BOOK, (((1,), value),)), type(value) is tuple and len(value) == 0)
        right = {repr(course) for ticks in range(5) for course, _ in plain_courses(P, BOOK, ticks)}
        for value in with_changes(COURSE):
            self.assertIs(is_course(P, BOOK, value), repr(value) in right, value)

    def test_movement_of_the_book_counts(self):
        self.assertIs(is_course(P, BOOK, (((0, 1), (0,)),)), True)
        self.assertIs(is_course(P, (), (((0, 1), (0,)),)), False)
        self.assertIs(is_course(P, (), (((0, 1), ()),)), True)


class CoursesTest(unittest.TestCase):
    def test_told_numbers(self):
        self.assertEqual(
            [courses(P, BOOK, ticks) for ticks in range(5)], [len(plain_courses(P, BOOK, ticks)) for ticks in range(5)])
        self.assertEqual([courses(P, BOOK, ticks) for ticks in range(5)], [1, 4, 5, 5, 7])
        self.assertEqual([courses(P, (), ticks) for ticks in range(5)], [1, 2, 2, 2, 2])
        self.assertEqual(first_course(P, BOOK, 0), ())
        self.assertEqual(first_course(P, BOOK, 2), (((0, 1), ()), ((), ())))

    def test_some_cases(self):
        most = 0
        for _, port, book in some_cases(5, 150, 4, 3, 2):
            for ticks in range(port[0] + 1):
                told = [course for course, _ in plain_courses(port, book, ticks)]
                if len(told) > 3000:
                    break
                most = max(most, len(told))
                self.assertEqual(len(set(told)), len(told))
                self.assertEqual(courses(port, book, ticks), len(told))
                self.assertEqual(first_course(port, book, ticks), min(told))
                self.assertIs(is_course(port, book, first_course(port, book, ticks)), True)
        self.assertGreater(most, 100)

    def test_sizes_end_soon(self):
        for book in [BOOK, BOOK[::-1], (), (((("tick", 5, 20),), ("in", "oldest", "first")),) * 11 + BOOK[:1]]:
            self.assertGreater(courses(LARGE, book, 16), 600)
            first = first_course(LARGE, book, 16)
            self.assertIs(is_course(LARGE, book, first), True)
            self.assertEqual(first[4], ((0, 1, 2, 3), ()))
        self.assertEqual(courses(LARGE, (), 16), 5 ** 4)


if __name__ == "__main__":
    unittest.main()
