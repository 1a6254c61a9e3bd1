import random
import string
import unittest

from some_ports import P, WIDE, some_port, subsets
from test_promises import all_promises

from tidewarden.errors import BadLine, BadText, PortError
from tidewarden.ports import is_port
from tidewarden.porttexts import read_course, read_port, read_promise, write_course, write_port, write_promise

TEXT = "ticks 4\nbar 10\ntide 5 0 5 5\nberth 100 8\nvessel 80 12 0 1 1\nvessel 60 9 0 0 2\nstops 1"
COURSE_TEXT = "arrive 0 2 stop -\narrive - stop 0 1 2\narrive - stop -\narrive 1 3 9 stop 7"
COURSE = (((0, 2), ()), ((), (0, 1, 2)), ((), ()), ((1, 3, 9), (7,)))


class Case(unittest.TestCase):
    def refused(self, line, function, *arguments):
        with self.assertRaises(PortError) as caught:
            function(*arguments)
        if line is None:
            self.assertIs(type(caught.exception), BadText, arguments)
        else:
            self.assertIs(type(caught.exception), BadLine)
            self.assertIs(type(caught.exception.line), int)
            self.assertEqual(caught.exception.line, line, arguments)


def can_begin(lines):
    """Tell whether the text of some port begins with lines, by putting in all that may follow."""
    heads = [line.split(" ")[0] for line in lines]
    rest = ["ticks 1", "bar 0", "tide", "berth 1 0", "vessel 1 0 0 0 1", "stops 0"]
    if heads and heads[-1] not in [line.split(" ")[0] for line in rest]:
        return False
    behind = rest[[line.split(" ")[0] for line in rest].index(heads[-1]) + 1:] if heads else rest
    # The heights must be as many as there are ticks, so each number of them is tried.
    for heights in range(1, 41):
        whole = list(lines) + [line + " 0" * heights if line == "tide" else line for line in behind]
        if port_of(whole) is not None:
            return True
        if "tide" not in behind:
            break
    return False


def number_of(word):
    if not word or any(sign not in string.digits for sign in word) or str(int(word)) != word or len(word) > 9:
        raise ValueError(word)
    return int(word)


def port_of(lines):
    """The port that whole lines tell, or None."""
    rows = [line.split(" ") for line in lines]
    heads = [row[0] for row in rows]
    berths, vessels = heads.count("berth"), heads.count("vessel")
    if heads != ["ticks", "bar", "tide"] + ["berth"] * berths + ["vessel"] * vessels + ["stops"]:
        return None
    try:
        numbers = [tuple(map(number_of, row[1:])) for row in rows]
    except ValueError:
        return None
    if [len(row) for row in (numbers[0], numbers[1], numbers[-1])] != [1, 1, 1]:
        return None
    port = (
        numbers[0][0], numbers[1][0], numbers[2], tuple(numbers[3:3 + berths]), tuple(numbers[3 + berths:-1]), numbers[-1][0])
    return port if is_port(port) else None


def bad_line(text):
    """The number that point 21.1 tells for a text that is none of a port."""
    lines = text.split("\n")
    for k in range(len(lines)):
        if not can_begin(lines[:k + 1]):
            return k
    return len(lines)


class PortTextTest(Case):
    def test_told_text(self):
        self.assertEqual(write_port(P), TEXT)
        self.assertEqual(read_port(TEXT), P)
        self.assertEqual(read_port(write_port(WIDE)), WIDE)

    def test_some_ports(self):
        rng = random.Random(1)
        for _ in range(300):
            port = some_port(rng, 40, 4, 3, 9)
            text = write_port(port)
            self.assertEqual(read_port(text), port)
            lines = text.split("\n")
            self.assertEqual(port_of(lines), port)
            self.assertEqual(len(lines), 4 + len(port[3]) + len(port[4]))

    def test_bounds(self):
        for old, new, line in [
                ("ticks 4", "ticks 0", 0), ("ticks 4", "ticks 41", 0), ("ticks 4", "ticks 04", 0), ("ticks 4", "ticks", 0),
                ("ticks 4", "ticks 4 4", 0), ("ticks 4", "ticks  4", 0), ("ticks 4", " ticks 4", 0), ("ticks 4", "ticks 4 ", 0),
                ("ticks 4", "Ticks 4", 0), ("ticks 4", "tick 4", 0), ("ticks 4", "ticks -4", 0), ("ticks 4", "ticks 4.", 0),
                ("ticks 4", "ticks 5", 2), ("ticks 4", "ticks 3", 2), ("ticks 4", "ticks 40", 2), ("ticks 4", "ticks 4000000000", 0),
                ("bar 10", "bar 501", 1), ("bar 10", "bar -1", 1), ("bar 10", "bar 010", 1), ("bar 10", "bar", 1),
                ("bar 10", "bar 1 0", 1), ("bar 10", "bar x", 1),
                ("tide 5 0 5 5", "tide 5 0 5", 2), ("tide 5 0 5 5", "tide 5 0 5 5 5", 2), ("tide 5 0 5 5", "tide 5 0 5 501", 2),
                ("tide 5 0 5 5", "tide 5 00 5 5", 2), ("tide 5 0 5 5", "tide 5  0 5 5", 2), ("tide 5 0 5 5", "tide", 2),
                ("berth 100 8", "berth 0 8", 3), ("berth 100 8", "berth 401 8", 3), ("berth 100 8", "berth 100 501", 3),
                ("berth 100 8", "berth 100", 3), ("berth 100 8", "berth 100 8 8", 3), ("berth 100 8", "berth 100 08", 3),
                ("80 12 0 1 1", "0 12 0 1 1", 4), ("80 12 0 1 1", "401 12 0 1 1", 4), ("80 12 0 1 1", "80 901 0 1 1", 4),
                ("80 12 0 1 1", "80 12 2 1 1", 4), ("80 12 0 1 1", "80 12 0 4 1", 4), ("80 12 0 1 1", "80 12 4 4 1", 4),
                ("80 12 0 1 1", "80 12 0 1 0", 4), ("80 12 0 1 1", "80 12 0 1 10", 4), ("80 12 0 1 1", "80 12 0 1", 4),
                ("80 12 0 1 1", "80 12 0 1 1 1", 4), ("80 12 0 1 1", "80 12 00 1 1", 4), ("80 12 0 1 1", "80 12 0 1 1 ", 4),
                ("60 9 0 0 2", "60 9 1 0 2", 5), ("60 9 0 0 2", "60 9 0 0 x", 5),
                ("stops 1", "stops 4", 6), ("stops 1", "stops", 6), ("stops 1", "stops 01", 6), ("stops 1", "stops 1 1", 6)]:
            self.assertEqual(TEXT.count(old), 1)
            text = TEXT.replace(old, new)
            self.refused(line, read_port, text)
            self.assertEqual(bad_line(text), line, text)
        for old, new in [
                ("bar 10", "bar 0"), ("bar 10", "bar 500"), ("tide 5 0 5 5", "tide 500 0 0 500"), ("berth 100 8", "berth 1 0"),
                ("berth 100 8", "berth 400 500"), ("80 12 0 1 1", "400 900 3 3 9"), ("80 12 0 1 1", "1 0 0 0 1"),
                ("stops 1", "stops 0"), ("stops 1", "stops 3")]:
            text = TEXT.replace(old, new)
            self.assertEqual(write_port(read_port(text)), text)

    def test_numbers_of_lines(self):
        lines = TEXT.split("\n")
        berth, vessel = lines[3], lines[4]
        for told, line in [
                (lines[:3] + [berth] * 3 + lines[4:], None), (lines[:3] + [berth] * 4 + lines[4:], 6),
                (lines[:4] + [vessel] * 4 + lines[6:], None), (lines[:4] + [vessel] * 5 + lines[6:], 8),
                (lines[:4] + [vessel] + lines[6:], None), (lines[:3] + lines[4:], 3), (lines[:4] + lines[6:], 4),
                (lines[:4] + [vessel, berth] + lines[5:], 5), (lines + lines[-1:], 7), (lines + [""], 7), (lines + [vessel], 7),
                ([""] + lines, 0), (lines[1:], 0), (lines[:2] + [""] + lines[2:], 2), (lines[::-1], 0)]:
            text = "\n".join(told)
            if line is None:
                self.assertEqual(write_port(read_port(text)), text)
            else:
                self.refused(line, read_port, text)

    def test_lines_left_out_doubled_and_exchanged(self):
        for port in [P, WIDE]:
            lines = write_port(port).split("\n")
            for k in range(len(lines)):
                for told in [lines[:k] + lines[k + 1:], lines[:k + 1] + lines[k:], lines[:k], lines[:k] + [""] + lines[k:]] + [
                        lines[:k] + [lines[j]] + lines[k + 1:j] + [lines[k]] + lines[j + 1:] for j in range(k + 1, len(lines))]:
                    text = "\n".join(told)
                    right = port_of(told)
                    if right is not None:
                        self.assertEqual(read_port(text), right)
                    else:
                        self.refused(bad_line(text), read_port, text)

    def test_text_cut_anywhere(self):
        for k in range(len(TEXT)):
            text = TEXT[:k]
            lines = text.split("\n")
            self.assertIsNone(port_of(lines))
            self.refused(bad_line(text), read_port, text)
        for text, line in [("", 0), ("\n", 0), ("ticks 4", 1), ("ticks 4\n", 1), (TEXT + "\n", 7), (TEXT[:-2], 6), ("ticks 40", 1)]:
            self.refused(line, read_port, text)

    def test_changed_signs(self):
        rng = random.Random(2)
        for _ in range(3000):
            k = rng.randrange(len(TEXT))
            sign = rng.choice("0123456789 -\nbrstxT")
            text = rng.choice((TEXT[:k] + sign + TEXT[k + 1:], TEXT[:k] + sign + TEXT[k:], TEXT[:k] + TEXT[k + 1:]))
            right = port_of(text.split("\n"))
            if right is not None:
                self.assertEqual(read_port(text), right)
            else:
                self.refused(bad_line(text), read_port, text)

    def test_long_texts(self):
        for text in ["\n" * 100000, "9" * 100000, " " * 100000, "ticks 4\nbar 10\ntide" + " 0" * 40000, TEXT + "\n" * 90000]:
            self.refused(bad_line(text[:2000]), read_port, text)


class CourseTextTest(Case):
    def test_told_texts(self):
        self.assertEqual(write_course(COURSE), COURSE_TEXT)
        self.assertEqual(read_course(COURSE_TEXT), COURSE)
        self.assertEqual(write_course(()), "")
        self.assertEqual(read_course(""), ())
        self.assertEqual(write_course((((0, 2), ()),)), "arrive 0 2 stop -")
        self.assertEqual(read_course("arrive 0 1 2 3 4 5 6 7 8 9 stop 0 9"), ((tuple(range(10)), (0, 9)),))

    def test_all_pairs(self):
        pairs = [(arrivals, stops) for arrivals in subsets(range(4)) for stops in subsets(range(3))]
        for pair in pairs:
            self.assertEqual(read_course(write_course((pair,))), (pair,))
            self.assertEqual(read_course(write_course((pair, pairs[5], pair))), (pair, pairs[5], pair))

    def test_lines_of_another_form(self):
        for line in [
                "", "arrive", "arrive - stop", "arrive stop -", "arrive 0 stop", "stop - arrive -", "arrive - - stop -",
                "arrive - stop - -", "arrive 0 - stop -", "arrive - 0 stop -", "arrive 10 stop -", "arrive 00 stop -",
                "arrive 01 stop -", "arrive 1 0 stop -", "arrive 1 1 stop -", "arrive - stop 2 1", "arrive - stop 1 1",
                "arrive - stop 10", "arrive  0 stop -", "arrive 0  stop -", "arrive 0 stop  -", " arrive 0 stop -",
                "arrive 0 stop - ", "arrive 0, 1 stop -", "arrive 0,1 stop -", "Arrive 0 stop -", "arrive 0 Stop -",
                "arrive -1 stop -", "arrive 0 stop stop -", "arrive 0 stop - stop -", "arrive 0 stop 0 stop", "arrive -stop -",
                "arrive - stop x", "arrive 0 1", "arrives 0 stop -", "arrive 0 stops -", "arrive none stop -", "-", "arrive 0 arrive 1 stop -"]:
            self.refused(1, read_course, f"arrive - stop -\n{line}")
            self.refused(1, read_course, f"arrive - stop -\n{line}\narrive - stop -\nx")
            if line:
                self.refused(0, read_course, line)
            else:
                self.refused(0, read_course, "\n")
                self.refused(0, read_course, "\narrive - stop -")

    def test_number_of_lines(self):
        line = "arrive 0 stop 1"
        self.assertEqual(read_course("\n".join([line] * 40)), (((0,), (1,)),) * 40)
        self.refused(40, read_course, "\n".join([line] * 41))
        self.refused(40, read_course, "\n".join([line] * 40 + ["x"]))
        self.refused(40, read_course, "\n".join([line] * 40) + "\n")
        self.refused(39, read_course, "\n".join([line] * 39 + ["x"] + [line]))
        self.refused(39, read_course, "\n".join([line] * 39) + "\n")
        self.refused(3, read_course, "\n".join([line] * 3 + ["x"] + [line] * 90 + ["x"]))
        self.refused(0, read_course, "\n" * 99999)

    def test_changed_signs(self):
        rng = random.Random(3)
        seen = 0
        for _ in range(2000):
            k = rng.randrange(len(COURSE_TEXT))
            sign = rng.choice("0123456789 -\nasT")
            text = rng.choice((
                COURSE_TEXT[:k] + sign + COURSE_TEXT[k + 1:], COURSE_TEXT[:k] + sign + COURSE_TEXT[k:],
                COURSE_TEXT[:k] + COURSE_TEXT[k + 1:]))
            rows = subsets(range(10))
            lines = text.split("\n")
            right = [is_course_line(line) for line in lines]
            if all(right):
                seen += 1
                self.assertEqual(write_course(read_course(text)), text)
                self.assertTrue(all(pair[0] in rows and pair[1] in rows for pair in read_course(text)))
            else:
                self.refused(right.index(False), read_course, text)
        self.assertGreater(seen, 40)


def is_course_line(line):
    for sign in string.digits:
        line = line.replace(sign, "d" + sign)
    words = line.split(" ")
    if words[0] != "arrive" or words.count("stop") != 1:
        return False
    at = words.index("stop")
    parts = words[1:at], words[at + 1:]
    return all(
        part == ["-"] or part and part == sorted(set(part)) and all(len(word) == 2 and word[0] == "d" for word in part)
        for part in parts)


class PromiseTextTest(Case):
    def test_told_texts(self):
        for promise, text in [
                (("berthed", 0, 3), "berthed 0 by 3"), (("gone", 1, 0), "gone 1 by 0"), (("waits", 1, 40), "waits 1 most 40"),
                (("roads", 4), "roads most 4"), (("afloat",), "afloat"), (("apart", 1, 0), "apart 1 0")]:
            self.assertEqual(write_promise(promise), text)
            self.assertEqual(read_promise(P, text), promise)

    def test_all_promises(self):
        for port in [P, WIDE]:
            texts = {write_promise(promise): promise for promise in all_promises(port)}
            for text, promise in texts.items():
                self.assertEqual(read_promise(port, text), promise)
            for one in list(texts)[::7]:
                for sign in " 0by-x\n":
                    for k in range(len(one) + 1):
                        for text in [one[:k] + sign + one[k:], one[:k] + sign + one[k + 1:], one[:k] + one[k + 1:]]:
                            if text in texts:
                                self.assertEqual(read_promise(port, text), texts[text])
                            else:
                                self.refused(None, read_promise, port, text)

    def test_other_texts(self):
        for text in [
                "", " ", "berthed", "berthed 0 3", "berthed by 0 3", "berthed 0 most 3", "berthed 0 by", "berthed by 3",
                "berthed 2 by 0", "berthed 0 by 4", "berthed 00 by 3", "berthed 0 by 03", "berthed 0 by 3 by", "berthed 0 by by 3",
                "by berthed 0 3", "Berthed 0 by 3", "berthed  0 by 3", "berthed 0 by 3 ", " berthed 0 by 3", "berthed 0 by -1",
                "gone 0 by 4", "gone 2 by 0", "gone 0 0", "gone 0 most 3", "gone 0 by 3 3", "waits 0 by 3", "waits 0 most 41",
                "waits 2 most 1", "waits most 1", "waits 0 1", "waits 0 most 01", "waits most 0 1", "roads 1", "roads most 5",
                "roads most", "roads most 1 1", "roads 0 most 1", "roads by 1", "roads most most 1", "roads most 04", "afloat 0",
                "afloat ", "afloat most", "apart 0 0", "apart 0", "apart 0 2", "apart 0 1 1", "apart 0 by 1", "apart 0  1",
                "apart 0 1 ", "apart 00 1", "apart", "kept 0 by 1", "afloat\n", "gone 0 by 3\n", "gone 0 by 9999999999",
                "waits 0 most 4294967296"]:
            self.refused(None, read_promise, P, text)


if __name__ == "__main__":
    unittest.main()
