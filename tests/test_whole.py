"""What the document promises over the whole program: the points 0.1 to 0.3."""

import copy
import importlib
import inspect
import os
import re
import unittest

from some_ports import P
from test_courses import BOOK, COURSE

import tidewarden
from tidewarden.errors import PortError

FOLDER = os.path.dirname(os.path.abspath(tidewarden.__file__))
# The number of the part that a module belongs to.
PARTS = {
    "errors": 0, "kinds": 0, "spells": 1, "clocks": 1, "tides": 2, "channels": 3, "quays": 4, "cranes": 5, "boxes": 6,
    "yards": 7, "fewest": 8, "ships": 9, "stowing": 10, "loading": 11, "trucks": 12, "ports": 13, "ticking": 13, "books": 14,
    "booktexts": 14, "courses": 15, "promises": 16, "outlooks": 16, "papers": 16, "games": 17, "likeness": 18, "changes": 18,
    "reports": 19, "bills": 20, "porttexts": 21, "logs": 22, "harbour": 23, "console": 23}
TIDE = ((0, 10), (6, 0), (12, 10))
SHIP = (1, 1, 2, ((0, 0, 1),), 0, 0)
BOXES = [("CSQU3054383", 20, "plain", 1), ("MSKU0000006", 9, "cold", 1)]
LOAD = (((0, 0, 0), BOXES[0]), ((0, 0, 1), BOXES[1]))
YARD = ((1, 2), (3,))
STATE = (((1, 0, 0), (1, 0, 0)), 1)
PROMISES = (("waits", 1, 3),)
PLAN = (2, ((0, 1),))
LOG = ["tick 0", "1 arrives", "1 goes in to 0"]
TRIPLES = [(("in", 1, 0), (((0, 0, 0), (2, 0, 2)), 1), (((1, 1, 0), (2, 0, 1)), 1))]

# A call of each function of the interface that answers with more than True or False.
CALLS = [
    ("spells.spells_of", [[4, 3, 9, 4]]), ("spells.common", [((3, 9),), ((4, 5),)]), ("spells.joined", [((3, 9),), ((14, 15),)]),
    ("spells.without", [((3, 9),), ((4, 5),)]), ("spells.moved", [((3, 9),), -4]), ("spells.ticks_in", [((3, 9),)]),
    ("spells.first_room", [((3, 9),), 4]), ("spells.write_spells", [((3, 9),)]), ("spells.read_spells", ["3..9"]),
    ("clocks.clock", [97]), ("clocks.read_clock", ["1/00:15"]), ("tides.water", [TIDE, 4]), ("tides.open_spells", [TIDE, 5, 30]),
    ("tides.lowest", [TIDE, 2, 30]), ("tides.next_open", [TIDE, 5, 4]), ("tides.tide_row", [TIDE, 14]),
    ("channels.channel_spells", [(2, 3), (1, "out")]), ("channels.passage_faults", [(2, 3), 2, [(1, "in"), (2, "in")]]),
    ("channels.next_passage", [(2, 3), 2, [(1, "in")], "out", 0]), ("channels.next_tidal", [(2, 3), 2, [(1, "in")], "out", 0, TIDE, 0]),
    ("quays.quay_length", [((5, 5),)]), ("quays.depth_along", [((5, 5),), 0, 3]), ("quays.mooring_faults", [((5, 5),), [(0, 9, 0, 1, 1)]]),
    ("quays.free_places", [((5, 5),), [(0, 1, 0, 1, 1)], 1, 1, 0, 1]), ("quays.next_mooring", [((5, 5),), [(0, 1, 0, 1, 1)], 1, 1, 0, 1]),
    ("cranes.loads", [(1, 2), (0, 1, 2)]), ("cranes.best_share", [(3, 1, 2), 2]), ("cranes.crane_paper", [(3, 1, 2), 2]),
    ("cranes.crane_ticks", [(2, 1), (0, 1, 2)]), ("boxes.check_digit", ["CSQU305438"]), ("boxes.distance_of", [(("d1", "d2", 3),), "d2", "d1"]),
    ("yards.settled_yard", [YARD]), ("yards.yard_after", [YARD, 2, (0, 1)]), ("yards.yard_moves", [YARD, 2]), ("yards.blocking", [YARD]),
    ("fewest.yard_paper", [YARD, 2]), ("fewest.fewest_moves", [YARD, 2]), ("ships.slots_of", [SHIP]), ("ships.moments", [SHIP, LOAD]),
    ("ships.load_faults", [SHIP, (), LOAD[1:]]), ("stowing.stow_paper", [SHIP, (), BOXES]), ("stowing.stowings", [SHIP, (), BOXES]),
    ("loading.order_paper", [SHIP, LOAD]), ("loading.even_orders", [SHIP, LOAD]), ("trucks.gate_paper", [(1, 1), ((0, 1), (0,), (0,))]),
    ("trucks.most_trucks", [(1, 1), ((0, 1), (0,), (0,))]), ("trucks.first_appointment", [(1, 1), ((0, 1), (0,), (0,))]),
    ("ports.start_state", [P]), ("ticking.arrivals_of", [P, 0, (((0, 0, 0),) * 2, 1)]), ("ticking.movements_of", [P, 0, STATE]),
    ("ticking.stops_of", [P, TRIPLES[0][1]]), ("ticking.arrived", [(((0, 0, 0),) * 2, 1), (1,)]),
    ("ticking.moved_state", [P, STATE, ("in", 1, 0)]), ("ticking.worked", [TRIPLES[0][1], (0,)]),
    ("ticking.tick_after", [P, 0, (((0, 0, 0),) * 2, 1), (1,), ("in", 1, 0), ()]), ("ticking.aground", [P, 1, TRIPLES[0][1]]),
    ("books.choice", [BOOK, P, 0, STATE]), ("books.reasons", [BOOK, P, 0, STATE]), ("booktexts.write_book", [BOOK]),
    ("booktexts.read_book", ["do out first"]), ("courses.run", [P, BOOK, COURSE]), ("courses.run_with", [P, (("none",),) * 4, COURSE]),
    ("courses.courses", [P, BOOK, 3]), ("courses.first_course", [P, BOOK, 3]), ("promises.first_break", [P, BOOK, (("gone", 0, 3),), COURSE]),
    ("papers.book_paper", [P, BOOK, PROMISES]), ("papers.book_paper", [P, (), PROMISES]), ("games.game_paper", [P, PROMISES]),
    ("games.game_paper", [P, (("gone", 0, 3),)]), ("likeness.likeness_paper", [P, BOOK, ()]), ("likeness.likeness_paper", [P, BOOK, BOOK]),
    ("changes.change_paper", [P, BOOK, (), 1, PROMISES]), ("changes.change_paper", [P, (), BOOK, 1, PROMISES]),
    ("reports.wrong_reports", [((0, 0, 0),), ((1, 0),)]), ("reports.can_be", [PLAN, 2, 1, ((0, 0, 0),), 0]),
    ("reports.least_wrong", [PLAN, 2, ((0, 0, 0),), 0]), ("reports.place_paper", [PLAN, 2, 1, ((0, 0, 0),), 0, 0, 1]),
    ("reports.place_paper", [PLAN, 1, 1, ((0, 0, 0),), 0, 0, 1]), ("bills.bill_rows", [P, TRIPLES]), ("bills.settlement", [P, TRIPLES]),
    ("bills.paid", [P, TRIPLES]), ("bills.caused", [P, TRIPLES]), ("porttexts.write_port", [P]), ("porttexts.write_course", [COURSE]),
    ("porttexts.write_promise", [("gone", 0, 3)]), ("porttexts.read_port", ["ticks 1\nbar 0\ntide 0\nberth 1 0\nvessel 1 0 0 0 1\nstops 0"]),
    ("porttexts.read_course", ["arrive - stop -"]), ("porttexts.read_promise", [P, "afloat"]), ("logs.log_of", [P, BOOK, COURSE]),
    ("logs.read_log", [P, BOOK, LOG]), ("logs.journal", [P, BOOK, COURSE]), ("logs.read_journal", [P, BOOK, "0/00:00 " + "\n0/00:00 ".join(LOG)]),
]


def module(name):
    return importlib.import_module("tidewarden." + name)


def is_plain(value):
    """Tell whether a value is made of kinds of Python's own only."""
    if type(value) in (tuple, list):
        return all(is_plain(part) for part in value)
    if type(value) is dict:
        return all(is_plain(key) and is_plain(value[key]) for key in value)
    return value is None or type(value) in (int, bool, str)


def depth(value):
    if type(value) in (tuple, list):
        return 1 + max([depth(part) for part in value], default=0)
    return 0


class WholeTest(unittest.TestCase):
    def test_files(self):
        names = sorted(name for name in os.listdir(FOLDER) if name != "__pycache__")
        self.assertEqual(names, sorted([name + ".py" for name in PARTS] + ["__init__.py"]))

    def test_errors(self):
        errors = module("errors")
        names = ["BadText", "NotAllowed", "BadLine", "BadCourse", "Over", "NothingToUndo", "NoRule", "Full"]
        found = {name for name, value in vars(errors).items() if inspect.isclass(value)}
        self.assertEqual(found, set(names) | {"PortError"})
        self.assertEqual(PortError.__bases__, (ValueError,))
        for name in names:
            self.assertEqual(getattr(errors, name).__bases__, (PortError,))
        # No module has errors of its own.
        for name in PARTS:
            own = [value for value in vars(module(name)).values() if inspect.isclass(value) and value.__module__ == module(name).__name__]
            if name != "errors":
                self.assertFalse([value for value in own if issubclass(value, Exception)], name)

    def test_parts_depend_on_earlier_ones(self):
        for name, part in PARTS.items():
            with open(os.path.join(FOLDER, name + ".py"), encoding="utf-8") as file:
                text = file.read()
            for other in re.findall(r"^from tidewarden\.(\w+) import", text, re.M):
                self.assertLessEqual(PARTS[other], part, (name, other))

    def test_no_outside(self):
        for name in PARTS:
            with open(os.path.join(FOLDER, name + ".py"), encoding="utf-8") as file:
                text = file.read()
            for line in text.split("\n"):
                if line.startswith(("import ", "from ")):
                    self.assertRegex(line, r"^from (tidewarden\.\w+|heapq|itertools|math) import ")
            self.assertIsNone(re.search(r"\b(open|print|input|time|random|environ|exec|eval)\(", text), name)

    def test_each_call(self):
        for name, arguments in CALLS:
            folder, _, word = name.partition(".")
            function = getattr(module(folder), word)
            before = copy.deepcopy(arguments)
            value = function(*arguments)
            self.assertEqual(arguments, before, name)
            self.assertTrue(is_plain(value), name)
            self.assertLessEqual(depth(value), 200)
            self.assertEqual(repr(function(*arguments)), repr(value), name)
            if type(value) in (list, dict):
                kept = copy.deepcopy(value)
                value.clear()
                self.assertEqual(function(*arguments), kept, name)
            self.assertEqual(arguments, before, name)

    def test_every_function_of_the_interface_is_called(self):
        from test_interface import ANY_VALUE, SIGNATURES
        called = {name for name, _ in CALLS} | set(ANY_VALUE)
        asked = {
            "spells.holds", "courses.is_course", "promises.broken", "papers.keeps", "games.can_keep", "likeness.are_alike",
            "changes.does_harm", "yards.is_yard"}
        for name, signatures in SIGNATURES.items():
            for signature in signatures:
                self.assertIn(f"{name}.{signature.split('(')[0]}", called | asked)

    def test_beyond_the_limits_no_error(self):
        port = (45, 10, (5,) * 45, ((100, 8),) * 4, ((80, 12, 0, 1, 1),) * 5, 5)
        book = (((), ("in", "first", "first")),) * 14
        promises = (("waits", 0, 50), ("roads", 6)) * 4
        course = (((0, 1, 2, 3, 4), ()),) + (((), ()),) * 44
        triples = module("courses").run(port, book, course)
        self.assertEqual(len(triples), 45)
        self.assertIsNone(module("promises").first_break(port, book, promises, course))
        self.assertEqual(len(module("bills").paid(port, triples)), 5)
        self.assertEqual(module("logs").read_log(port, book, module("logs").log_of(port, book, course)), course)
        small = P[:4] + (P[4] + P[4],) + P[5:]
        for tick in (4, 5, 7):
            paper = module("changes").change_paper(P, BOOK, (), tick, PROMISES)
            self.assertEqual(paper[0], "safe")
            self.assertIs(module("changes").check_change(P, BOOK, (), tick, PROMISES, paper), True)
            self.assertIs(module("changes").check_change(P, BOOK, (), tick, PROMISES, ("harm", COURSE, ())), False)
            self.assertIs(module("changes").check_change(P, BOOK, (), tick, PROMISES, ("safe", paper[1], ())), False)
        self.assertEqual(module("papers").book_paper(small, BOOK, (("roads", 3),) * 9)[0], "kept")
        self.assertEqual(module("reports").can_be((9, ()), 21, 5, ((20, 4, 8),) * 31, 31)[4], list(range(9)))


if __name__ == "__main__":
    unittest.main()
