import itertools
import random
import re
import unittest

from some_ports import FIELDS, WHERE, WHO, some_book

from tidewarden.books import is_book
from tidewarden.booktexts import read_book, write_book
from tidewarden.errors import BadLine, PortError

NUMBER = "(0|[1-9][0-9]{0,2})"
CONDITION = f"({'|'.join(FIELDS)}) {NUMBER}-{NUMBER}"
DEED = f"(none|out ({'|'.join(WHO)})|in ({'|'.join(WHO)}) ({'|'.join(WHERE)}))"
RULE = re.compile(f"(when {CONDITION}(, {CONDITION}){{0,2}} )?do {DEED}")


def is_line(line):
    """Tell whether a line is the text of a rule."""
    found = re.fullmatch(RULE, line)
    return bool(found) and all(int(low) <= int(high) for low, high in re.findall("([0-9]+)-([0-9]+)", line))


class BookTextTest(unittest.TestCase):
    def refused(self, text, line):
        with self.assertRaises(PortError, msg=text) as caught:
            read_book(text)
        self.assertIs(type(caught.exception), BadLine)
        self.assertEqual(caught.exception.line, line, text)
        self.assertIs(type(caught.exception.line), int)

    def both(self, book, text):
        self.assertEqual(write_book(book), text)
        self.assertEqual(read_book(text), book)
        self.assertIs(is_book(read_book(text)), True)

    def test_example(self):
        self.both(
            (((), ("out", "first")), ((("roads", 2, 4), ("tide", 30, 99)), ("in", "longest", "tightest"))),
            "do out first\nwhen roads 2-4, tide 30-99 do in longest tightest")

    def test_each_form(self):
        self.both((), "")
        self.both((((), ("none",)),), "do none")
        for who in WHO:
            self.both((((), ("out", who)),), f"do out {who}")
            for where in WHERE:
                self.both((((), ("in", who, where)),), f"do in {who} {where}")
        for field in FIELDS:
            for low, high in [(0, 0), (0, 999), (5, 5), (9, 10), (99, 100), (999, 999), (0, 1)]:
                self.both((((((field, low, high),)), ("none",)),), f"when {field} {low}-{high} do none")
        for fields in itertools.product(FIELDS, repeat=3):
            conditions = tuple((field, k, 10 * k) for k, field in enumerate(fields))
            self.both(
                ((conditions, ("out", "last")),),
                f"when {fields[0]} 0-0, {fields[1]} 1-10, {fields[2]} 2-20 do out last")

    def test_many_lines(self):
        for many in range(1, 13):
            self.both((((), ("none",)),) * many, "\n".join(["do none"] * many))
        for many in range(13, 16):
            self.refused("\n".join(["do none"] * many), 12)
        self.refused("\n".join(["do none"] * 12 + ["do all"]), 12)
        self.refused("\n".join(["do none"] * 12 + [""]), 12)
        self.refused("\n".join(["do none"] * 11 + ["do all", "do none", "do none"]), 11)
        self.refused("\n".join(["do all"] * 20), 0)
        for k in range(12):
            lines = ["do none"] * 12
            lines[k] = "do nothing"
            self.refused("\n".join(lines), k)
            self.refused("\n".join(lines[:k] + ["", "do none"]), k)
            self.refused("\n".join(lines + lines), k)

    def test_empty_lines(self):
        for text, line in [
                ("\n", 0), ("\n\n", 0), ("do none\n", 1), ("\ndo none", 0), ("do none\n\ndo none", 1),
                ("do none\ndo none\n\n", 2), (" ", 0), ("do none\n ", 1)]:
            self.refused(text, line)

    def test_signs_and_blanks(self):
        for line in [
                " do none", "do none ", "do  none", "do", "do ", "donone", "Do none", "do None", "do none none", "none",
                "do in", "do in first", "do in first first first", "do in tightest first", "do in first last", "do out",
                "do out first first", "do out tightest", "do out  first", "do first", "do none,", "do none;", "do, none",
                "when do none", "when  do none", "when roads 2-4", "when roads 2-4 ", "when roads 2-4 do",
                "when roads 2-4 do ", "when roads 2-4  do none", "when roads  2-4 do none", "when  roads 2-4 do none",
                "when roads 2 - 4 do none", "when roads 2-4,tide 1-2 do none", "when roads 2-4,  tide 1-2 do none",
                "when roads 2-4 , tide 1-2 do none", "when roads 2-4, do none", "when , roads 2-4 do none",
                "when roads 2-4 tide 1-2 do none", "when roads 2-4, tide 1-2, do none", "when roads 2..4 do none",
                "when roads 2-4-5 do none", "when roads 2-4 5-6 do none", "when roads 2 do none", "when roads -4 do none",
                "when roads 2- do none", "when roads - do none", "when roads do none", "when 2-4 do none",
                "when 2-4 roads do none", "when Roads 2-4 do none", "When roads 2-4 do none", "when road 2-4 do none",
                "when in 2-4 do none", "roads 2-4 do none", "when roads 2-4, when tide 1-2 do none", "when roads 2-4 none",
                "when roads 2-4 do none do none", "do none do none", "when roads 2-4 do when roads 2-4 do none",
                "when tick 1-2, tick 1-2, tick 1-2, tick 1-2 do none", "when roads 2--4 do none", "when roads +2-4 do none",
                "when roads 2-+4 do none", "when roads 2-4do none", "whenroads 2-4 do none", "when\troads 2-4 do none",
                "when roads 2-4 do\tnone", "do none\r", "when roads 2_0-40 do none", "when roads (2-4) do none"]:
            self.assertFalse(is_line(line), line)
            self.refused(line, 0)
            self.refused("do none\n" + line + "\n" + line, 1)

    def test_numbers(self):
        for low, high in [
                ("00", "5"), ("05", "5"), ("0", "00"), ("1", "05"), ("0", "1000"), ("1000", "1000"), ("5", "4"), ("999", "0"),
                ("0", "9999999999"), ("1", "0000000002"), ("0", "99999999999999999999"), ("0", "a"), ("1.0", "2"),
                ("0x1", "2"), ("", "2"), ("2", "")]:
            self.refused(f"when tick {low}-{high} do none", 0)
            self.refused(f"do none\nwhen tick 1-2, tick {low}-{high} do none", 1)
        for low, high in itertools.product((0, 1, 9, 10, 99, 100, 998, 999, 1000, 1001), repeat=2):
            text = f"when stops {low}-{high} do none"
            if low <= high <= 999:
                self.both((((("stops", low, high),), ("none",)),), text)
            else:
                self.refused(text, 0)

    def test_some_books(self):
        rng = random.Random(1)
        for _ in range(300):
            book = some_book(rng, 12)
            text = write_book(book)
            self.both(book, text)
            self.assertTrue(text == "" or all(is_line(line) for line in text.split("\n")))

    def test_texts_that_are_changed(self):
        rng = random.Random(2)
        taken = refused = 0
        for _ in range(4000):
            text = write_book(some_book(rng, 3))
            at = rng.randint(0, len(text))
            part = rng.choice(("", " ", "-", ",", "0", "1", "9", "\n", "do ", "when ", "tick ", "x", ", ", "do none\n"))
            text = text[:at] + part + text[at + rng.choice((0, 0, 1, 2)):]
            lines = text.split("\n") if text else []
            wrong = [k for k, line in enumerate(lines) if not is_line(line)]
            if wrong:
                refused += 1
                self.refused(text, wrong[0])
            else:
                taken += 1
                self.both(read_book(text), text)
        self.assertGreater(min(taken, refused), 200)

    def test_long_texts(self):
        self.refused("do none\n" * 12000, 12)
        self.refused("when " * 20000, 0)
        self.refused("9" * 100000, 0)
        self.refused("when tick 0-" + "9" * 90000 + " do none", 0)


if __name__ == "__main__":
    unittest.main()
