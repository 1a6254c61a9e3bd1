import random
import unittest

from some_ports import AWAY, GONE, P, lies, plain_start, plain_ticks, some_book, some_port, waits
from test_courses import BOOK

from tidewarden.bills import bill_rows, caused, paid, settlement
from tidewarden.courses import run

# Four vessels and three berths.
PORT = (
    9, 100, (100,) * 9, ((9, 100), (9, 100), (9, 100)),
    ((9, 9, 0, 8, 9), (9, 9, 0, 8, 9), (9, 9, 0, 8, 9), (9, 9, 0, 8, 9)), 0)


def triple(middle, after):
    """A triple of a run with the places of the vessels in the middle and at the end of a tick."""
    return (("none",), (tuple(middle), 0), (tuple(after), 0))


def end_of(port, book, course):
    triples = run(port, book, course)
    return triples[-1][2] if triples else plain_start(port)


def some_runs(seed, many):
    rng = random.Random(seed)
    for _ in range(many):
        port = some_port(rng, 5, 4, 3)
        book = some_book(rng) + BOOK
        course = ()
        # Runs of whole days, where each tick is any one of those that can happen.
        for tick in range(port[0]):
            pairs = [(arrivals, stops) for arrivals, stops, *_ in plain_ticks(port, book, tick, end_of(port, book, course))]
            course = course + (rng.choice(pairs),)
        yield port, run(port, book, course)


class BillRowsTest(unittest.TestCase):
    def test_payers(self):
        for berthed, units in [(0, 6), (1, 6), (2, 3), (3, 2)]:
            middle = [lies(k, 1) for k in range(berthed)] + [AWAY] * (3 - berthed) + [waits(0)]
            after = [lies(k, 0) for k in range(berthed)] + [AWAY] * (3 - berthed) + [waits(1)]
            rows = bill_rows(PORT, [triple(middle, after)])
            payers = list(range(berthed)) or [3]
            self.assertEqual(rows, [(0, 3, payer, units) for payer in payers])
            self.assertEqual(sum(row[3] for row in rows), 6)

    def test_order(self):
        triples = [
            triple([waits(0), lies(2, 1), waits(2), lies(0, 1)], [waits(1), lies(2, 0), waits(3), lies(0, 0)]),
            triple([waits(1), lies(2, 0), waits(3), GONE], [waits(2), lies(2, 0), waits(4), GONE]),
            triple([lies(0, 9), lies(2, 0), lies(1, 9), GONE], [lies(0, 8), lies(2, 0), lies(1, 8), GONE]),
            triple([waits(1), GONE, waits(3), GONE], [waits(2), GONE, waits(4), GONE])]
        rows = bill_rows(PORT, triples)
        self.assertEqual(rows, [
            (0, 0, 1, 3), (0, 0, 3, 3), (0, 2, 1, 3), (0, 2, 3, 3), (1, 0, 1, 6), (1, 2, 1, 6), (3, 0, 0, 6), (3, 2, 2, 6)])
        self.assertEqual(paid(PORT, triples), [6, 18, 6, 6])
        self.assertEqual(caused(PORT, triples), [18, 0, 18, 0])
        self.assertEqual(bill_rows(PORT, triples[2:3]), [])

    def test_middle_and_end(self):
        # Who comes into a berth pays at once, who goes out does not; who waits in the middle alone costs nothing.
        self.assertEqual(
            bill_rows(PORT, [triple([lies(0, 9), waits(4), AWAY, GONE], [lies(0, 9), waits(5), AWAY, GONE])]), [(0, 1, 0, 6)])
        self.assertEqual(
            bill_rows(PORT, [triple([waits(0), lies(0, 1), AWAY, GONE], [lies(1, 3), lies(0, 0), AWAY, GONE])]), [])
        self.assertEqual(
            bill_rows(PORT, [triple([GONE, waits(0), AWAY, GONE], [lies(0, 1), waits(1), lies(2, 2), GONE])]), [(0, 1, 1, 6)])

    def test_nothing(self):
        self.assertEqual(bill_rows(PORT, []), [])
        self.assertEqual(paid(PORT, []), [0, 0, 0, 0])
        self.assertEqual(caused(PORT, []), [0, 0, 0, 0])
        self.assertEqual(settlement(PORT, []), [])

    def test_told_run(self):
        triples = run(P, BOOK, (((1,), ()), ((0,), ()), ((), ()), ((), ())))
        self.assertEqual(bill_rows(P, triples), [(1, 0, 1, 6), (2, 0, 0, 6)])
        self.assertEqual(paid(P, triples), [6, 6])
        self.assertEqual(caused(P, triples), [12, 0])
        self.assertEqual(settlement(P, triples), [(1, 0, 6)])

    def test_some_runs(self):
        for port, triples in some_runs(1, 300):
            rows = []
            for tick, (_, middle, after) in enumerate(triples):
                payers = [v for v, place in enumerate(middle[0]) if place[0] == 2]
                for v, place in enumerate(after[0]):
                    if place[0] == 1:
                        rows += [(tick, v, w, 6 // len(payers)) for w in payers] if payers else [(tick, v, v, 6)]
            told = list(triples)
            self.assertEqual(bill_rows(port, triples), sorted(rows))
            vessels = range(len(port[4]))
            self.assertEqual(paid(port, triples), [sum(row[3] for row in rows if row[2] == v) for v in vessels])
            self.assertEqual(caused(port, triples), [sum(row[3] for row in rows if row[1] == v) for v in vessels])
            self.assertEqual(sum(paid(port, triples)), sum(caused(port, triples)))
            self.assertEqual(triples, told)


class SettlementTest(unittest.TestCase):
    def test_told_steps(self):
        def tick(payers, waiters):
            middle = [lies(payers.index(v), 1) if v in payers else AWAY for v in range(4)]
            return triple(middle, [waits(1) if v in waiters else AWAY for v in range(4)])

        # Balances -12, -6, 6, 12.
        triples = [tick([0], [3]), tick([0], [3]), tick([1], [2])]
        self.assertEqual(settlement(PORT, triples), [(0, 2, 6), (0, 3, 6), (1, 3, 6)])
        # Balances 6, -6, 6, -6.
        self.assertEqual(settlement(PORT, [tick([1], [0]), tick([3], [2])]), [(1, 0, 6), (3, 2, 6)])
        # Balances 18, -9, -9, 0.
        triples = [tick([1, 2], [0]), tick([1, 2], [0]), tick([1, 2], [0])]
        self.assertEqual(settlement(PORT, triples), [(1, 0, 9), (2, 0, 9)])
        # Balances 6, 6, 6, -18.
        triples = [tick([3], [0, 1, 2])]
        self.assertEqual(settlement(PORT, triples), [(3, 0, 6), (3, 1, 6), (3, 2, 6)])
        # Who waits while nobody lies at a berth pays itself.
        self.assertEqual(settlement(PORT, [tick([], [0, 1])]), [])
        # Balances -2, -2, -2, 6, and what each one pays is balanced by what it costs.
        self.assertEqual(settlement(PORT, [tick([0, 1, 2], [3])]), [(0, 3, 2), (1, 3, 2), (2, 3, 2)])
        self.assertEqual(settlement(PORT, [tick([0], [1]), tick([1], [0])]), [])

    def test_some_runs(self):
        longest = 0
        for port, triples in some_runs(2, 300):
            balances = [one - two for one, two in zip(caused(port, triples), paid(port, triples))]
            self.assertEqual(sum(balances), 0)
            steps = settlement(port, triples)
            longest = max(longest, len(steps))
            for giver, taker, units in steps:
                self.assertEqual(giver, min(v for v, n in enumerate(balances) if n < 0))
                self.assertEqual(taker, min(v for v, n in enumerate(balances) if n > 0))
                self.assertEqual(units, min(-balances[giver], balances[taker]))
                balances[giver] += units
                balances[taker] -= units
            self.assertEqual(balances, [0] * len(balances))
        self.assertGreater(longest, 1)


if __name__ == "__main__":
    unittest.main()
