import itertools
import random
import unittest

from odd_values import DEEP, ODD, with_changes
from some_ports import AWAY, FIELDS, GONE, P, WHERE, WHO, lies, plain_verdicts, some_book, some_port, some_state, waits

from tidewarden.books import choice, is_book, reasons

BOOK = (
    ((("roads", 2, 4), ("tide", 30, 99)), ("in", "longest", "tightest")), ((), ("out", "oldest")),
    ((("stops", 0, 0),), ("none",)))
RULE = ((), ("none",))


def one_rule(*conditions, deed=("none",)):
    return ((conditions, deed),)


class IsBookTest(unittest.TestCase):
    def test_rules(self):
        self.assertIs(is_book(()), True)
        self.assertIs(is_book(BOOK), True)
        for many in range(15):
            self.assertIs(is_book((RULE,) * many), many <= 12)
        for many in range(6):
            self.assertIs(is_book(one_rule(*[("tick", 1, 2)] * many)), many <= 3)

    def test_numbers(self):
        for low, high in itertools.product((-1, 0, 1, 2, 998, 999, 1000, 1001), repeat=2):
            for field in FIELDS:
                self.assertIs(is_book(one_rule((field, low, high))), 0 <= low <= high <= 999)
                self.assertIs(is_book(one_rule(("tick", 1, 1), (field, low, high))), 0 <= low <= high <= 999)
        for number in (True, False, 1.0, "1", None, (), (1,)):
            self.assertIs(is_book(one_rule(("tick", number, 5))), False)
            self.assertIs(is_book(one_rule(("tick", 0, number))), False)

    def test_fields(self):
        for field in FIELDS:
            self.assertIs(is_book(one_rule((field, 0, 9))), True)
        for field in ("", "Tick", "tick ", "ticks", "first", "in", "none", "height", 0, None, True, ("tick",), ["tick"], b"tick"):
            self.assertIs(is_book(one_rule((field, 0, 9))), False, field)

    def test_deeds(self):
        for who in WHO:
            self.assertIs(is_book(one_rule(deed=("out", who))), True)
            for where in WHERE:
                self.assertIs(is_book(one_rule(deed=("in", who, where))), True)
        words = ["in", "out", "none", "first", "longest", "tightest", "deepest", "", "tick", "In", 0, None, True]
        for size in range(5):
            for deed in itertools.product(words, repeat=size) if size < 4 else [("in", "first", "first", "first")]:
                right = deed == ("none",) or (len(deed) == 2 and deed[0] == "out" and deed[1] in WHO)
                right = right or (len(deed) == 3 and deed[0] == "in" and deed[1] in WHO and deed[2] in WHERE)
                self.assertIs(is_book(one_rule(deed=deed)), right, deed)
        for who in ("tightest", "shortest", "youngest", 0, None, ["first"], ("first",)):
            self.assertIs(is_book(one_rule(deed=("out", who))), False)
            self.assertIs(is_book(one_rule(deed=("in", who, "first"))), False)
        for where in ("last", "longest", "oldest", "busiest", 0, None, ["first"], ("first",)):
            self.assertIs(is_book(one_rule(deed=("in", "first", where))), False)

    def test_forms(self):
        for value in [
                list(BOOK), (list(RULE),), RULE, (RULE + (1,),), (RULE[:1],), (([], ("none",)),), (((), ["none"]),),
                one_rule(["tick", 1, 2]), one_rule(("tick", 1)), one_rule(("tick", 1, 2, 3)), one_rule(()),
                ((("tick", 1, 2), ("none",)),), (((), "none"),), (((), ()),), "none", ("none",)]:
            self.assertIs(is_book(value), False, value)
        for value in ODD + DEEP:
            self.assertIs(is_book(value), type(value) is tuple and len(value) == 0)
            self.assertIs(is_book((value,)), False)
            self.assertIs(is_book((((value,), ("none",)),)), False)
            self.assertIs(is_book((((), value),)), False)
            self.assertIs(is_book((((), ("in", value, "first")),)), False)
            self.assertIs(is_book((((), ("in", "first", value)),)), False)
            self.assertIs(is_book(((value, ("none",)),)), type(value) is tuple and len(value) == 0)
        kept = [BOOK[:k] + BOOK[k + 1:] for k in range(3)]
        for k, rule in enumerate(BOOK):
            for j in range(len(rule[0])):
                fewer = (rule[0][:j] + rule[0][j + 1:], rule[1])
                kept.append(BOOK[:k] + (fewer,) + BOOK[k + 1:])
            kept.append(BOOK[:k] + (((), rule[1]),) + BOOK[k + 1:])
        kept = [repr(book) for book in kept] + [repr(BOOK)]
        for value in with_changes(BOOK):
            self.assertIs(is_book(value), repr(value) in kept, value)

    def test_some_books(self):
        rng = random.Random(1)
        for _ in range(200):
            self.assertIs(is_book(some_book(rng, 12)), True)


# The heights are 30, 40, .. at the ticks 0, 1, ..
PORT = (
    6, 900, (30, 40, 50, 60, 70, 80), ((10, 900), (9, 800), (9, 950), (8, 950)),
    ((8, 5, 0, 0, 3), (9, 4, 0, 0, 4), (9, 5, 0, 0, 4), (7, 3, 0, 0, 2)), 3)
ROADS = ((waits(2), waits(5), waits(5), waits(0)), 1)
DONE = ((lies(3, 0), lies(1, 0), lies(2, 0), lies(0, 0)), 1)


class ConditionTest(unittest.TestCase):
    def test_each_field_at_and_beyond_both_numbers(self):
        places = (waits(1), waits(0), lies(0, 3), GONE)
        for field, tick, state, number in [
                ("tick", 3, (places, 2), 3), ("tide", 3, (places, 2), 60), ("roads", 3, (places, 1), 2),
                ("berthed", 3, (places, 2), 1), ("stops", 3, (places, 2), 2), ("tick", 0, (places, 2), 0),
                ("tide", 0, (places, 2), 30), ("stops", 5, (places, 0), 0), ("roads", 5, ((AWAY,) * 4, 1), 0),
                ("berthed", 5, (DONE[0], 1), 4), ("roads", 5, ROADS, 4), ("berthed", 1, ROADS, 0)]:
            for low in {max(0, number - 2), max(0, number - 1), number, number + 1}:
                for high in {low, number, number + 1, number + 2}:
                    if low > high:
                        continue
                    book = one_rule((field, low, high))
                    told = "chosen" if low <= number <= high else "condition"
                    self.assertEqual(reasons(book, PORT, tick, state), [told], (field, low, high))

    def test_all_conditions_must_hold(self):
        right, wrong = ("tick", 1, 1), ("tide", 0, 39)
        for conditions in itertools.product((right, wrong), repeat=3):
            told = "chosen" if conditions == (right,) * 3 else "condition"
            self.assertEqual(reasons(one_rule(*conditions), PORT, 1, ROADS), [told])
        self.assertEqual(reasons(one_rule(), PORT, 1, ROADS), ["chosen"])


class ChoiceTest(unittest.TestCase):
    def chosen(self, deed, state, tick=0, port=PORT):
        return choice(one_rule(deed=deed), port, tick, state)

    def test_each_word_for_vessels_in_the_roads(self):
        for who, v in [("first", 0), ("last", 3), ("longest", 1), ("deepest", 0), ("busiest", 1), ("oldest", 1)]:
            self.assertEqual(self.chosen(("in", who, "first"), ROADS), ("in", v, 0), who)
        fewer = ((AWAY, GONE, waits(0), waits(1)), 0)
        for who, v in [("first", 2), ("last", 3), ("longest", 2), ("deepest", 2), ("busiest", 2), ("oldest", 3)]:
            self.assertEqual(self.chosen(("in", who, "first"), fewer), ("in", v, 0), who)

    def test_each_word_for_vessels_at_berths(self):
        for who, v in [("first", 0), ("last", 3), ("longest", 1), ("deepest", 0), ("busiest", 1), ("oldest", 0)]:
            self.assertEqual(self.chosen(("out", who), DONE), ("out", v), who)
        fewer = ((lies(3, 1), lies(1, 1), lies(2, 0), lies(0, 0)), 1)
        for who, v in [("first", 2), ("last", 3), ("longest", 2), ("deepest", 2), ("busiest", 2), ("oldest", 2)]:
            self.assertEqual(self.chosen(("out", who), fewer), ("out", v), who)

    def test_oldest_takes_no_berth_for_waiting(self):
        # The second item of a triple is a berth there, and no number of ticks.
        state = ((lies(0, 0), lies(3, 0), AWAY, AWAY), 1)
        self.assertEqual(self.chosen(("out", "oldest"), state), ("out", 0))

    def test_each_word_for_berths(self):
        state = ((AWAY, AWAY, AWAY, waits(0)), 0)
        for where, berth in [("first", 0), ("tightest", 3), ("deepest", 2)]:
            self.assertEqual(self.chosen(("in", "first", where), state), ("in", 3, berth), where)
        state = ((AWAY, AWAY, waits(0), AWAY), 0)
        for where, berth in [("first", 0), ("tightest", 1), ("deepest", 2)]:
            self.assertEqual(self.chosen(("in", "first", where), state), ("in", 2, berth), where)
        state = ((lies(0, 1), lies(2, 1), waits(0), AWAY), 0)
        for where in WHERE:
            self.assertEqual(self.chosen(("in", "first", where), state), ("in", 2, 1), where)

    def test_only_vessels_that_can(self):
        port = (1, 10, (0,), ((5, 10), (9, 6)), ((9, 10, 0, 0, 1), (5, 11, 0, 0, 9), (4, 6, 0, 0, 1)), 0)
        state = ((waits(9), waits(9), waits(0)), 0)
        for who in WHO:
            self.assertEqual(self.chosen(("in", who, "first"), state, 0, port), ("in", 2, 0))
            self.assertEqual(self.chosen(("in", who, "deepest"), state, 0, port), ("in", 2, 0))
        self.assertEqual(self.chosen(("in", "last", "first"), ((waits(9), waits(9), GONE), 0), 0, port), ("none",))

    def test_first_rule_that_can(self):
        stay, enter, leave = ((), ("none",)), ((), ("in", "last", "first")), ((), ("out", "first"))
        later = ((("tick", 1, 9),), ("in", "first", "first"))
        for book, movement, words in [
                ((), ("none",), []), ((stay, enter), ("none",), ["chosen"]), ((enter, stay), ("in", 3, 0), ["chosen"]),
                ((leave, enter, stay), ("in", 3, 0), ["nobody", "chosen"]), ((leave,), ("none",), ["nobody"]),
                ((later, enter), ("in", 3, 0), ["condition", "chosen"]),
                ((later, leave), ("none",), ["condition", "nobody"]),
                ((leave, later, leave), ("none",), ["nobody", "condition", "nobody"]),
                ((leave, later, stay, enter), ("none",), ["nobody", "condition", "chosen"])]:
            self.assertEqual(choice(book, PORT, 0, ROADS), movement)
            self.assertEqual(reasons(book, PORT, 0, ROADS), words)
            self.assertIs(type(reasons(book, PORT, 0, ROADS)), list)
        self.assertEqual(choice((later, enter), PORT, 1, ROADS), ("in", 0, 0))

    def test_condition_goes_before_nobody(self):
        book = ((((("tick", 1, 1),)), ("out", "first")),)
        self.assertEqual(reasons(book, PORT, 0, ROADS), ["condition"])
        self.assertEqual(reasons(book, PORT, 1, ROADS), ["nobody"])

    def test_some_moments(self):
        rng = random.Random(2)
        seen = {}
        for _ in range(3000):
            port = some_port(rng, 5, 4, 3)
            tick, state, book = rng.randrange(port[0]), some_state(rng, port), some_book(rng, 5)
            words, movement = plain_verdicts(book, port, tick, state)
            self.assertEqual(choice(book, port, tick, state), movement)
            self.assertEqual(reasons(book, port, tick, state), words)
            for word in words + [movement[0]]:
                seen[word] = seen.get(word, 0) + 1
        self.assertGreater(min(seen.values()), 100)
        self.assertEqual(set(seen), {"condition", "nobody", "chosen", "in", "out", "none"})

    def test_port_of_the_document(self):
        book = (((), ("out", "first")), ((), ("in", "first", "first")))
        self.assertEqual(choice(book, P, 0, ((waits(0), waits(0)), 1)), ("in", 0, 0))
        self.assertEqual(choice(book, P, 1, ((waits(0), waits(0)), 1)), ("none",))
        self.assertEqual(choice(book, P, 2, ((waits(0), lies(0, 0)), 1)), ("out", 1))


if __name__ == "__main__":
    unittest.main()
