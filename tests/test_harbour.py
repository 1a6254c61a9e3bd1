import random
import unittest

from odd_values import ODD
from plain_papers import breaks_of, end_of, futures_of, is_unbroken
from some_ports import (
    P, plain_arrivals, plain_start, plain_tick, plain_ticks, plain_verdicts, some_book, some_port, some_promise, subsets)
from test_courses import BOOK, COURSE
from test_logs import LOG

from tidewarden.bills import paid
from tidewarden.courses import run_with
from tidewarden.errors import NotAllowed, NothingToUndo, Over, PortError
from tidewarden.harbour import Harbour


def all_of(harbour, promises=()):
    """All that a harbour tells."""
    return (
        harbour.left, harbour.state, len(harbour), harbour.book(), harbour.port(), harbour.done(), harbour.movements(),
        harbour.events(), harbour.breaks(promises), harbour.will_keep(promises), harbour.bill())


def whole_day(harbour, course):
    for arrivals, stops in course:
        harbour.step(arrivals, stops)
    return harbour


class Case(unittest.TestCase):
    def refused(self, error, function, *arguments, **keywords):
        with self.assertRaises(PortError) as caught:
            function(*arguments, **keywords)
        self.assertIs(type(caught.exception), error)


class HarbourTest(Case):
    def test_start(self):
        harbour = Harbour(P)
        self.assertEqual(
            all_of(harbour), (4, plain_start(P), 0, (), P, (), (), [], [], True, [0, 0]))
        self.assertEqual(Harbour(P, BOOK).book(), BOOK)
        self.assertEqual(Harbour(P, book=BOOK).book(), BOOK)
        self.refused(NothingToUndo, harbour.undo)
        self.refused(NothingToUndo, Harbour(P, BOOK).undo)

    def test_told_day(self):
        harbour = Harbour(P, BOOK)
        movements = [("in", 1, 0), ("none",), ("out", 1), ("in", 0, 0)]
        for tick, (arrivals, stops) in enumerate(COURSE):
            self.assertEqual((harbour.left, len(harbour)), (4 - tick, tick))
            self.assertEqual(harbour.step(arrivals, stops), movements[tick])
            self.assertEqual(harbour.done(), COURSE[:tick + 1])
            self.assertEqual(harbour.movements(), tuple(movements[:tick + 1]))
            self.assertEqual(harbour.state, run_with(P, tuple(movements[:tick + 1]), COURSE[:tick + 1])[-1][2])
        self.assertEqual(harbour.events(), LOG)
        self.assertEqual(harbour.bill(), [6, 6])
        self.assertEqual(harbour.left, 0)
        self.assertEqual(harbour.breaks((("gone", 0, 3), ("waits", 0, 0), ("afloat",))), [(1, 1), (1, 2), (2, 1), (3, 0)])
        self.assertIs(harbour.will_keep((("gone", 0, 3),)), True)
        for kind, value in [(tuple, harbour.done()), (tuple, harbour.movements()), (list, harbour.events()), (list, harbour.bill())]:
            self.assertIs(type(value), kind)

    def test_defaults_and_keywords(self):
        harbour = Harbour(P, BOOK)
        self.refused(NotAllowed, harbour.step)
        self.assertEqual(harbour.step(stops=(), arrivals=(0, 1)), ("in", 0, 0))
        self.assertEqual(harbour.step(), ("none",))
        self.assertIs(harbour.guided(("none",)), None)
        self.assertIs(harbour.guided(("out", 0), stops=(), arrivals=()), None)
        with self.assertRaises(TypeError):
            harbour.guided(("none",), ())

    def test_over(self):
        harbour = whole_day(Harbour(P, BOOK), COURSE)
        told = all_of(harbour)
        for arrivals, stops in [((), ()), ((5,), (5,)), ((0,), ())]:
            self.refused(Over, harbour.step, arrivals, stops)
            self.refused(Over, harbour.guided, ("none",), arrivals=arrivals, stops=stops)
            self.refused(Over, harbour.guided, ("fly", 1), arrivals=arrivals, stops=stops)
        self.assertEqual(all_of(harbour), told)
        harbour.undo()
        self.assertEqual(len(harbour), 3)
        self.assertEqual(harbour.step(), ("in", 0, 0))

    def test_guided(self):
        harbour = Harbour(P, BOOK)
        for movement, arrivals, stops in [
                (("in", 0, 0), (1,), ()), (("in", 1, 0), (0,), ()), (("in", 1, 1), (1,), ()), (("out", 1), (1,), ()),
                (("in", 1), (1,), ()), (("none", 1), (1,), ()), (("in", 1, 0), (1,), (1,)), (("none",), (1,), (0,)),
                (("in", 1, 0), (1, 0), ()), (("in", 1, 0), (1, 1), ()), (("in", 1, 0), (), ()), (("in", 1, 0), (1,), (0, 0)),
                (("",), (1,), ()), (("in", 1, -1), (1,), ()), (("in", 9, 0), (1,), ()), (("in", 1, 0), (1, 2), ())]:
            self.refused(NotAllowed, harbour.guided, movement, arrivals=arrivals, stops=stops)
            self.refused(NothingToUndo, harbour.undo)
            self.assertEqual(all_of(harbour), all_of(Harbour(P, BOOK)))
        harbour.guided(("none",), arrivals=(0, 1))
        self.assertEqual(harbour.movements(), (("none",),))
        self.assertEqual(harbour.events(), ["tick 0", "0 arrives", "1 arrives"])
        self.assertEqual(harbour.bill(), [6, 6])

    def test_some_days(self):
        rng = random.Random(1)
        for _ in range(200):
            port, book = some_port(rng, 5, 3, 2), some_book(rng)
            harbour, rows = Harbour(port, book), []
            promises = tuple(some_promise(rng, port) for _ in range(3))
            for tick in range(port[0]):
                state = end_of(port, rows)
                self.assertEqual(harbour.state, state)
                row = rng.choice(plain_ticks(port, book, tick, state))
                if rng.random() < 0.3:
                    arrivals = rng.choice(plain_arrivals(port, tick, state))
                    movement = rng.choice([("none",)] + [("in", v, b) for v in range(3) for b in range(2)] + [("out", v) for v in range(3)])
                    stops = rng.choice(subsets(range(2)))
                    told = plain_tick(port, tick, state, arrivals, movement, stops)
                    before = all_of(harbour, promises)
                    if told is None:
                        self.refused(NotAllowed, harbour.guided, movement, arrivals=arrivals, stops=stops)
                        self.assertEqual(all_of(harbour, promises), before)
                        self.assertEqual(harbour.step(row[0], row[1]), row[2])
                        rows.append(row)
                    else:
                        harbour.guided(movement, arrivals=arrivals, stops=stops)
                        rows.append((arrivals, stops, movement) + told)
                else:
                    self.assertEqual(harbour.step(row[0], row[1]), row[2])
                    rows.append(row)
                self.assertEqual(harbour.done(), tuple(row[:2] for row in rows))
                self.assertEqual(harbour.movements(), tuple(row[2] for row in rows))
                self.assertEqual((harbour.left, len(harbour)), (port[0] - tick - 1, tick + 1))
                self.assertEqual(harbour.bill(), paid(port, [row[2:] for row in rows]))
                self.assertEqual(harbour.breaks(promises), [
                    (at, k) for at, row in enumerate(rows) for k in breaks_of(port, promises, at, row[3], row[4])])
                kept = all(is_unbroken(port, promises, tick + 1, rest) for rest in futures_of(port, book, tick + 1, end_of(port, rows)))
                self.assertIs(harbour.will_keep(promises), kept)

    def test_breaks_in_order(self):
        harbour = Harbour(P)
        harbour.step((0, 1))
        harbour.step()
        promises = (("roads", 0), ("afloat",), ("waits", 1, 1), ("roads", 1), ("gone", 0, 1))
        self.assertEqual(harbour.breaks(promises), [(0, 0), (0, 3), (1, 0), (1, 2), (1, 3), (1, 4)])
        self.assertEqual(harbour.breaks(()), [])

    def test_will_keep_from_now_on(self):
        harbour = Harbour(P, BOOK)
        promises = (("gone", 0, 3),)
        self.assertIs(harbour.will_keep(promises), False)
        harbour.step((0, 1))
        self.assertIs(harbour.will_keep(promises), True)
        harbour.set_book(())
        self.assertIs(harbour.will_keep(promises), False)
        # What is broken already does not count.
        self.assertIs(harbour.will_keep((("berthed", 1, 0),)), True)
        self.assertEqual(harbour.breaks((("berthed", 1, 0),)), [(0, 0)])

    def test_events_with_guided_movements(self):
        harbour = Harbour(P, BOOK)
        harbour.guided(("in", 1, 0), arrivals=(0, 1), stops=(0,))
        harbour.set_book(())
        harbour.step()
        self.assertEqual(harbour.events(), ["tick 0", "0 arrives", "1 arrives", "1 goes in to 0", "0 stops", "tick 1"])


class UndoTest(Case):
    def test_all_deeds(self):
        harbour = Harbour(P, BOOK)
        kept = [all_of(harbour)]
        for deed in [
                lambda: harbour.set_book(()), lambda: harbour.step((1,)), lambda: harbour.set_book(BOOK),
                lambda: harbour.set_book(BOOK), lambda: harbour.step((0,)), lambda: harbour.guided(("none",)),
                lambda: harbour.set_book(()), lambda: harbour.step()]:
            deed()
            kept.append(all_of(harbour))
        self.assertEqual(len(harbour), 4)
        for told in kept[-2::-1]:
            self.assertIs(harbour.undo(), None)
            self.assertEqual(all_of(harbour), told)
        self.refused(NothingToUndo, harbour.undo)
        self.refused(NothingToUndo, harbour.undo)
        self.assertEqual(all_of(harbour), kept[0])

    def test_any_order(self):
        rng = random.Random(2)
        for _ in range(150):
            port = some_port(rng, 4, 2, 2)
            harbour, past = Harbour(port), []
            for _ in range(12):
                told = all_of(harbour)
                kind = rng.choice(("step", "book", "undo", "refused", "guided"))
                tick = len(harbour)
                if kind == "undo":
                    if past:
                        harbour.undo()
                        self.assertEqual(all_of(harbour), past.pop())
                    else:
                        self.refused(NothingToUndo, harbour.undo)
                elif kind == "book":
                    book = rng.choice((some_book(rng), harbour.book()))
                    self.assertIs(harbour.set_book(book), None)
                    self.assertEqual(harbour.book(), book)
                    self.assertEqual(all_of(harbour)[4:9], told[4:9])
                    past.append(told)
                elif tick == port[0]:
                    self.refused(Over, harbour.step)
                    self.assertEqual(all_of(harbour), told)
                elif kind == "refused":
                    self.refused(NotAllowed, harbour.step, (7,))
                    self.refused(NotAllowed, harbour.step, rng.choice(plain_arrivals(port, tick, harbour.state)), (7,))
                    self.assertEqual(all_of(harbour), told)
                else:
                    row = rng.choice(plain_ticks(port, harbour.book(), tick, harbour.state))
                    if kind == "step":
                        harbour.step(row[0], row[1])
                    else:
                        harbour.guided(row[2], arrivals=row[0], stops=row[1])
                    past.append(told)

    def test_what_was_handed_out_stays(self):
        harbour = whole_day(Harbour(P, BOOK), COURSE[:2])
        done, movements, events = harbour.done(), harbour.movements(), harbour.events()
        events.append("x")
        harbour.bill().append(1)
        harbour.breaks((("roads", 0),)).append(1)
        self.assertEqual(harbour.events(), LOG[:6])
        harbour.undo()
        self.assertEqual(done, COURSE[:2])
        self.assertEqual(len(movements), 2)
        self.assertEqual(harbour.done(), COURSE[:1])

    def test_step_after_undo(self):
        harbour = whole_day(Harbour(P, BOOK), COURSE)
        harbour.undo()
        harbour.undo()
        harbour.set_book(())
        self.assertEqual(harbour.step(), ("none",))
        harbour.undo()
        harbour.undo()
        self.assertEqual(harbour.step(), ("out", 1))
        self.assertEqual(harbour.step(), ("in", 0, 0))
        self.assertEqual(harbour, whole_day(Harbour(P, BOOK), COURSE))


class EqualTest(Case):
    def told(self, one, two, right):
        self.assertIs(one == two, right)
        self.assertIs(two == one, right)
        self.assertIs(one != two, not right)

    def test_equal(self):
        self.told(Harbour(P), Harbour(P), True)
        self.told(Harbour(P), Harbour(P, ()), True)
        self.told(whole_day(Harbour(P, BOOK), COURSE), whole_day(Harbour(P, BOOK), COURSE), True)
        # What was done and taken back does not count, nor who chose the movements.
        one, two = Harbour(P, BOOK), Harbour(P)
        two.set_book(BOOK)
        self.told(one, two, True)
        one.step((1,))
        two.guided(("in", 1, 0), arrivals=(1,))
        self.told(one, two, True)
        one.step((0,))
        self.told(one, two, False)
        one.undo()
        self.told(one, two, True)

    def test_different(self):
        one = Harbour(P, BOOK)
        self.told(one, Harbour(P), False)
        self.told(one, Harbour(P, BOOK[::-1]), False)
        self.told(one, Harbour(P[:5] + (2,), BOOK), False)
        two = Harbour(P, BOOK)
        two.step((1,))
        self.told(one, two, False)
        one.step((0, 1))
        self.told(one, two, False)
        three = Harbour(P, BOOK)
        three.guided(("none",), arrivals=(0, 1))
        self.told(one, three, False)
        four = Harbour(P, BOOK)
        four.step((0, 1), (0,))
        self.told(one, four, False)
        self.assertEqual(plain_verdicts(BOOK, P, 0, ((((1, 0, 0),) * 2), 1))[1], ("in", 0, 0))

    def test_nothing_else(self):
        harbour = Harbour(P)
        for value in ODD + (P, (P, ()), len(harbour), harbour.state):
            self.assertIs(harbour == value, False)
            self.assertIs(harbour != value, True)


if __name__ == "__main__":
    unittest.main()
