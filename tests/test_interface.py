"""The names and arguments of the interface, and the rules that hold for all functions."""

import doctest
import importlib
import inspect
import os
import unittest

from odd_values import DEEP, ODD
from some_ports import P

SIGNATURES = {
    "spells": [
        "is_spells(value)", "holds(a, tick)", "spells_of(ticks)", "common(a, b)", "joined(a, b)", "without(a, b)",
        "moved(a, by)", "ticks_in(a)", "first_room(a, start, *, lasting=1)", "write_spells(a)", "read_spells(text)"],
    "clocks": ["clock(tick)", "read_clock(text)"],
    "tides": [
        "is_tide(value)", "water(table, tick)", "open_spells(table, need, until)", "lowest(table, begin, end)",
        "next_open(table, need, start, *, lasting=1)", "tide_row(table, ticks)"],
    "channels": [
        "channel_spells(channel, passage)", "passage_faults(channel, headway, passages)",
        "next_passage(channel, headway, passages, way, start)",
        "next_tidal(channel, headway, passages, way, start, table, need)"],
    "quays": [
        "quay_length(quay)", "depth_along(quay, at, length)", "mooring_faults(quay, moorings, *, gap=0)",
        "free_places(quay, moorings, length, draught, begin, end, *, gap=0)",
        "next_mooring(quay, moorings, length, draught, start, lasting, *, gap=0)"],
    "cranes": [
        "is_share(works, cranes, value)", "check_cranes(works, cranes, value)", "loads(works, share)",
        "best_share(works, cranes)", "crane_paper(works, cranes)", "crane_ticks(works, share)"],
    "boxes": [
        "check_digit(text)", "distance_of(table, one, two)", "is_code(value)", "is_box(value)",
        "is_distances(value)"],
    "yards": [
        "is_yard(value, height)", "settled_yard(yard)", "yard_after(yard, height, move)",
        "yard_moves(yard, height)", "blocking(yard)"],
    "fewest": [
        "plan_ends(yard, height, value)", "check_yard(yard, height, value)", "yard_paper(yard, height)",
        "fewest_moves(yard, height)"],
    "ships": [
        "is_ship(value)", "is_load(ship, value)", "slots_of(ship)", "moments(ship, load)",
        "load_faults(ship, table, load)"],
    "stowing": [
        "stow_paper(ship, table, boxes)", "check_stow(ship, table, boxes, value)", "stowings(ship, table, boxes)"],
    "loading": [
        "is_even(ship, load, order)", "check_order(ship, load, value)", "order_paper(ship, load)",
        "even_orders(ship, load)"],
    "trucks": [
        "is_appointment(room, wishes, value)", "check_gate(room, wishes, value)", "gate_paper(room, wishes)",
        "most_trucks(room, wishes)", "first_appointment(room, wishes)"],
    "ports": ["is_port(value)", "is_state(port, value)", "start_state(port)"],
    "ticking": [
        "arrivals_of(port, tick, state)", "movements_of(port, tick, state)", "stops_of(port, state)",
        "arrived(state, arrivals)", "moved_state(port, state, movement)", "worked(state, stops)",
        "tick_after(port, tick, state, arrivals, movement, stops)", "aground(port, tick, state)"],
    "books": ["is_book(value)", "choice(book, port, tick, state)", "reasons(book, port, tick, state)"],
    "booktexts": ["write_book(book)", "read_book(text)"],
    "courses": [
        "run(port, book, course)", "run_with(port, movements, course)", "is_course(port, book, value)",
        "courses(port, book, ticks)", "first_course(port, book, ticks)"],
    "promises": [
        "is_promise(port, value)", "broken(port, promise, tick, middle, after)",
        "first_break(port, book, promises, course)"],
    "papers": ["book_paper(port, book, promises)", "check_book(port, book, promises, value)", "keeps(port, book, promises)"],
    "games": ["game_paper(port, promises)", "check_game(port, promises, value)", "can_keep(port, promises)"],
    "likeness": ["likeness_paper(port, one, two)", "check_likeness(port, one, two, value)", "are_alike(port, one, two)"],
    "changes": [
        "change_paper(port, old, new, tick, promises)", "check_change(port, old, new, tick, promises, value)",
        "does_harm(port, old, new, tick, promises)"],
    "reports": [
        "is_map(value)", "is_walk(plan, ticks, value)",
        "check_place(plan, ticks, boxes, reports, most, box, place, value)", "wrong_reports(reports, walks)",
        "can_be(plan, ticks, boxes, reports, most)", "least_wrong(plan, ticks, reports, box)",
        "place_paper(plan, ticks, boxes, reports, most, box, place)"],
    "bills": ["bill_rows(port, triples)", "settlement(port, triples)", "paid(port, triples)", "caused(port, triples)"],
    "porttexts": [
        "write_port(port)", "write_course(course)", "write_promise(promise)", "read_port(text)", "read_course(text)",
        "read_promise(port, text)"],
    "logs": [
        "log_of(port, book, course)", "read_log(port, book, lines)", "journal(port, book, course)",
        "read_journal(port, book, text)"],
}

METHODS = {
    "harbour.Harbour": [
        "__init__(self, port, book=())", "__len__(self)", "__eq__(self, other)", "step(self, arrivals=(), stops=())",
        "guided(self, movement, *, arrivals=(), stops=())", "set_book(self, book)", "undo(self)", "book(self)", "port(self)",
        "done(self)", "movements(self)", "events(self)", "breaks(self, promises)", "will_keep(self, promises)", "bill(self)"],
    "console.Console": ["__init__(self, port)", "enter(self, line)"],
}

SHIP = (1, 2, 2, (), 4, 4)
BOX = ("CSQU3054383", 2, "plain", 1)
LOAD = (((0, 0, 0), BOX),)
BOOK = (((), ("out", "first")), ((), ("in", "first", "first")))
START = (((0, 0, 0), (0, 0, 0)), 1)
PLAN = (2, ((0, 1),))
TRIPLES = [(("none",), (((1, 0, 0), (2, 0, 2)), 1), (((1, 1, 0), (2, 0, 1)), 1))]

ANY_VALUE = {
    "spells.is_spells": (), "tides.is_tide": (), "boxes.is_code": (), "boxes.is_box": (), "boxes.is_distances": (),
    "cranes.is_share": ((3, 1, 2), 2), "cranes.check_cranes": ((3, 1, 2), 2),
    "fewest.plan_ends": (((1, 2), ()), 3), "fewest.check_yard": (((1, 2), ()), 3),
    "ships.is_ship": (), "ships.is_load": (SHIP,), "stowing.check_stow": (SHIP, (), [BOX]),
    "loading.is_even": (SHIP, LOAD), "loading.check_order": (SHIP, LOAD), "ports.is_port": (), "ports.is_state": (P,),
    "trucks.is_appointment": ((1,), ((0,), (0,))), "trucks.check_gate": ((1,), ((0,), (0,))), "books.is_book": (),
    "courses.is_course": (P, BOOK), "promises.is_promise": (P,), "papers.check_book": (P, BOOK, (("gone", 0, 3),)),
    "games.check_game": (P, (("gone", 0, 3),)), "likeness.check_likeness": (P, BOOK, ()),
    "changes.check_change": (P, BOOK, (), 1, (("waits", 1, 3),)), "reports.is_map": (), "reports.is_walk": (PLAN, 2),
    "reports.check_place": (PLAN, 2, 1, (), 0, 0, 1),
}

# What is of the form although it stands among the odd values, since the empty tuple does.
EMPTY = ("ships.is_load", "books.is_book", "courses.is_course")
NONES = ("trucks.is_appointment",)

LISTS = [
    ("channels.channel_spells", ((2, 3), (1, "in")), {}),
    ("channels.passage_faults", ((2, 3), 2, [(1, "in"), (1, "in")]), {}),
    ("quays.mooring_faults", (((5, 5),), [(0, 9, 0, 1, 1)]), {"gap": 1}),
    ("cranes.loads", ((1, 2), (0, 1, 2)), {}),
    ("cranes.crane_ticks", ((1, 2), (0, 1, 2)), {}),
    ("yards.yard_moves", (((1, 2), ()), 2), {}),
    ("ships.slots_of", (SHIP,), {}),
    ("ships.load_faults", (SHIP, (), (((0, 0, 1), BOX),)), {}),
    ("ticking.arrivals_of", (P, 0, START), {}),
    ("ticking.movements_of", (P, 0, START), {}),
    ("ticking.stops_of", (P, START), {}),
    ("ticking.aground", (P, 1, (((2, 0, 1), (0, 0, 0)), 1)), {}),
    ("books.reasons", (BOOK, P, 0, START), {}),
    ("courses.run", (P, BOOK, (((1,), ()),)), {}),
    ("courses.run_with", (P, (("none",),), (((1,), ()),)), {}),
    ("reports.can_be", (PLAN, 2, 1, (), 0), {}),
    ("reports.least_wrong", (PLAN, 2, (), 0), {}),
    ("bills.bill_rows", (P, TRIPLES), {}),
    ("bills.paid", (P, TRIPLES), {}),
    ("bills.caused", (P, TRIPLES), {}),
    ("bills.settlement", (P, TRIPLES), {}),
    ("logs.log_of", (P, BOOK, (((1,), ()),)), {}),
]


def told(name):
    module, function = name.split(".")
    return getattr(importlib.import_module("tidewarden." + module), function)


def is_right(name, value):
    """Tell which of the odd values are of the form that a function tests."""
    if type(value) is not tuple:
        return False
    if name in NONES:
        return len(value) == 2 and value[0] is None and value[1] is None
    return len(value) == 0 and name in EMPTY


class InterfaceTest(unittest.TestCase):
    def test_names_and_arguments(self):
        for module, signatures in SIGNATURES.items():
            for signature in signatures:
                name = signature.split("(")[0]
                function = told(f"{module}.{name}")
                self.assertEqual(name + str(inspect.signature(function)), signature)
                self.assertEqual(function.__module__, "tidewarden." + module)

    def test_methods_of_the_classes(self):
        for name, signatures in METHODS.items():
            own = vars(told(name))
            self.assertEqual(told(name).__module__, "tidewarden." + name.split(".")[0])
            for signature in signatures:
                method = signature.split("(")[0]
                self.assertIn(method, own)
                self.assertEqual(method + str(inspect.signature(own[method])), signature)
        for name in ("left", "state"):
            self.assertIsInstance(vars(told("harbour.Harbour"))[name], property)

    def test_examples_of_the_readme(self):
        readme = os.path.join(os.path.dirname(os.path.dirname(os.path.abspath(__file__))), "README.md")
        found = doctest.testfile(readme, module_relative=False)
        self.assertGreater(found.attempted, 10)
        self.assertEqual(found.failed, 0)

    def test_any_value_gives_false(self):
        for name, arguments in ANY_VALUE.items():
            for value in ODD:
                self.assertIs(told(name)(*arguments, value), is_right(name, value), (name, value))

    def test_deep_values_give_false(self):
        for name, arguments in ANY_VALUE.items():
            for value in DEEP:
                for wrapped in [(value,), (value, value), ((0, value), (value, 0)), ("plan", value, value)]:
                    self.assertIs(told(name)(*arguments, wrapped), False, name)

    def test_returned_lists_are_new(self):
        for name, arguments, keywords in LISTS:
            first = told(name)(*arguments, **keywords)
            again = list(first)
            self.assertIs(type(first), list)
            self.assertTrue(first)
            self.assertTrue(all(type(item) in ((list,) if name == "reports.can_be" else (int, str, tuple)) for item in first))
            first.clear()
            self.assertEqual(told(name)(*arguments, **keywords), again)


if __name__ == "__main__":
    unittest.main()
