import random
import unittest

from some_ports import P, plain_courses, plain_start, plain_ticks, some_book, some_port
from test_courses import BOOK, COURSE, LARGE

from tidewarden.clocks import clock
from tidewarden.errors import BadLine, BadText, PortError
from tidewarden.logs import journal, log_of, read_journal, read_log

LOG = [
    "tick 0", "1 arrives", "1 goes in to 0", "tick 1", "0 arrives", "1 is done", "tick 2", "1 goes out", "tick 3",
    "0 goes in to 0", "0 is done"]
JOURNAL = (
    "0/00:00 tick 0\n0/00:00 1 arrives\n0/00:00 1 goes in to 0\n0/00:15 tick 1\n0/00:15 0 arrives\n0/00:15 1 is done\n"
    "0/00:30 tick 2\n0/00:30 1 goes out\n0/00:45 tick 3\n0/00:45 0 goes in to 0\n0/00:45 0 is done")


def plain_blocks(port, book, course):
    """The lines of each tick, by the words of point 22.1."""
    state, blocks = plain_start(port), []
    for tick, pair in enumerate(course):
        for arrivals, stops, movement, middle, after in plain_ticks(port, book, tick, state):
            if (arrivals, stops) == pair:
                break
        lines = ["tick " + str(tick)] + [str(v) + " arrives" for v in arrivals]
        if movement[0] == "in":
            lines.append(str(movement[1]) + " goes in to " + str(movement[2]))
        if movement[0] == "out":
            lines.append(str(movement[1]) + " goes out")
        lines += [str(berth) + " stops" for berth in stops]
        for v, place in enumerate(middle[0]):
            if place[0] == 2 and place[2] > 0 and after[0][v] == (2, place[1], 0):
                lines.append(str(v) + " is done")
        blocks.append(lines)
        state = after
    return blocks


def plain_log(port, book, course):
    return sum(plain_blocks(port, book, course), [])


def all_logs(port, book):
    return {
        tuple(plain_log(port, book, course)): course
        for ticks in range(port[0] + 1) for course, _ in plain_courses(port, book, ticks)}


def bad_line(logs, lines):
    """The number that point 22.2 tells for lines that are no log."""
    begins = {log[:k] for log in logs for k in range(len(log) + 1)}
    for many in range(1, len(lines) + 1):
        if tuple(lines[:many]) not in begins:
            return many - 1
    return len(lines)


def some_cases(seed, many):
    rng = random.Random(seed)
    for _ in range(many):
        port = some_port(rng, 3, 3, 2)
        yield rng, port, some_book(rng) + rng.choice(((), BOOK))


class Case(unittest.TestCase):
    def refused(self, line, port, book, lines):
        told = list(lines)
        with self.assertRaises(PortError) as caught:
            read_log(port, book, lines)
        self.assertIs(type(caught.exception), BadLine)
        self.assertIs(type(caught.exception.line), int)
        self.assertEqual(caught.exception.line, line, lines)
        self.assertEqual(lines, told)

    def no_journal(self, text, port=P, book=BOOK):
        with self.assertRaises(PortError) as caught:
            read_journal(port, book, text)
        self.assertIs(type(caught.exception), BadText)


class LogTest(Case):
    def test_told_logs(self):
        self.assertEqual(log_of(P, BOOK, COURSE), LOG)
        self.assertEqual(log_of(P, BOOK, ()), [])
        self.assertEqual(log_of(P, BOOK, COURSE[:1]), LOG[:3])
        self.assertEqual(
            log_of(P, BOOK, (((0, 1), (0,)), ((), ()), ((), ()))),
            ["tick 0", "0 arrives", "1 arrives", "0 goes in to 0", "0 stops", "tick 1", "0 is done", "tick 2", "0 goes out"])
        self.assertEqual(log_of(P, (), (((0, 1), ()), ((), ()))), ["tick 0", "0 arrives", "1 arrives", "tick 1"])
        self.assertEqual(
            log_of(P, BOOK, (((1,), (0,)), ((0,), ()), ((), ()), ((), ()))), [
                "tick 0", "1 arrives", "1 goes in to 0", "0 stops", "tick 1", "0 arrives", "tick 2", "1 is done", "tick 3",
                "1 goes out"])

    def test_two_berths(self):
        port = (4, 100, (9,) * 4, ((9, 99), (9, 99)), ((5, 9, 0, 0, 2), (5, 9, 0, 0, 1), (5, 9, 3, 3, 1)), 3)
        book = (((), ("in", "last", "first")),)
        self.assertEqual(log_of(port, book, (((0, 1), (0,)), ((), (0, 1)), ((), ()))), [
            "tick 0", "0 arrives", "1 arrives", "1 goes in to 0", "0 stops", "tick 1", "0 goes in to 1", "0 stops", "1 stops",
            "tick 2", "1 is done"])
        self.assertEqual(log_of(port, book, (((0, 1), ()),)), ["tick 0", "0 arrives", "1 arrives", "1 goes in to 0", "1 is done"])
        self.assertEqual(log_of(port, book, (((0, 1), (0,)), ((), ()))), [
            "tick 0", "0 arrives", "1 arrives", "1 goes in to 0", "0 stops", "tick 1", "0 goes in to 1", "1 is done"])
        book = (((), ("in", "first", "first")),)
        self.assertEqual(log_of(port, book, (((0, 1), ()), ((), ())))[-3:], ["1 goes in to 1", "0 is done", "1 is done"])

    def test_some_cases(self):
        for rng, port, book in some_cases(1, 200):
            for ticks in range(port[0] + 1):
                course, _ = rng.choice(plain_courses(port, book, ticks))
                self.assertEqual(log_of(port, book, course), plain_log(port, book, course))


class ReadLogTest(Case):
    def test_each_course(self):
        for _, port, book in some_cases(2, 120):
            for log, course in list(all_logs(port, book).items())[:150]:
                lines = list(log)
                self.assertEqual(read_log(port, book, lines), course)
                self.assertEqual(lines, list(log))
        self.assertEqual(read_log(P, BOOK, LOG), COURSE)
        self.assertEqual(read_log(P, BOOK, []), ())

    def test_told_numbers(self):
        for lines, line in [
                (LOG[:1], 1), (LOG[:2], 2), (LOG[:4], 4), (LOG[:5], 5), (LOG[:9], 9), (LOG[:7], 7), (LOG[:10], 10), (LOG[:3], None), (LOG[:6], None), (LOG[:8], None),
                (LOG[1:], 0), ([""] + LOG, 0), (["tick 1"] + LOG[1:], 0), (LOG[:1] + LOG[2:], 1), (LOG[:3] + LOG[4:], 3),
                (LOG[:2] + LOG[3:], 2), (LOG + ["tick 4"], 11), (LOG + ["1 arrives"], 11), (LOG[:8] + LOG[10:], 8),
                (LOG[:3] + LOG, 3), (LOG[:2] + LOG[1:], 2), (LOG[:1] + ["0 arrives", "1 arrives", "1 goes in to 0"], 3),
                (LOG[:1] + ["1 arrives", "0 arrives"], 2), (LOG[:3] + ["0 stops"] + LOG[3:], 6), (LOG[:3] + ["1 stops"] + LOG[3:], 3),
                (LOG[:5] + ["1 is done "], 5), (LOG[:5] + ["0 is done"], 5), (LOG[:3] + ["tick 2"], 3), (LOG[:3] + ["tick 1"], 4),
                (LOG + [""], 11), (["tick 0\n1 arrives"], 0), (["tick 00"] + LOG[1:], 0), (["Tick 0"] + LOG[1:], 0)]:
            if line is None:
                self.assertEqual(log_of(P, BOOK, read_log(P, BOOK, lines)), lines)
            else:
                self.assertEqual(bad_line(all_logs(P, BOOK), lines), line, lines)
                self.refused(line, P, BOOK, lines)

    def test_changes_at_any_place(self):
        bad = 0
        for rng, port, book in some_cases(3, 60):
            logs = all_logs(port, book)
            if len(logs) > 1500:
                continue
            words = sorted({line for log in logs for line in log}) + ["tick 9", "0 goes in to 9", "9 arrives", "", "x"]
            for log in rng.sample(sorted(logs), min(8, len(logs))):
                log = list(log)
                for k in range(len(log) + 1):
                    other = rng.choice(words)
                    changed = [log[:k] + [other] + log[k:], log[:k], log[:k] + log[k + 1:], log[:k] + [other] + log[k + 1:]]
                    changed += [log[:k] + log[k:k + 2][::-1] + log[k + 2:], log[:k] + log[k:k + 1] + log[k:]]
                    for lines in changed:
                        if tuple(lines) in logs:
                            self.assertEqual(read_log(port, book, lines), logs[tuple(lines)])
                        else:
                            bad += 1
                            self.refused(bad_line(logs, lines), port, book, lines)
        self.assertGreater(bad, 2000)

    def test_log_of_another_book(self):
        other = log_of(P, (), COURSE)
        self.assertEqual(other, ["tick 0", "1 arrives", "tick 1", "0 arrives", "tick 2", "tick 3"])
        self.assertEqual(read_log(P, (), other), COURSE)
        self.refused(2, P, BOOK, other)
        self.refused(2, P, (), LOG)
        seen = 0
        for rng, port, book in some_cases(4, 100):
            logs = all_logs(port, book)
            lines = plain_log(port, BOOK, rng.choice(plain_courses(port, BOOK, port[0]))[0])
            if tuple(lines) not in logs:
                seen += 1
                self.refused(bad_line(logs, lines), port, book, lines)
        self.assertGreater(seen, 20)

    def test_behind_the_day(self):
        for _, port, book in some_cases(5, 30):
            log = plain_log(port, book, plain_courses(port, book, port[0])[-1][0])
            self.refused(len(log), port, book, log + [f"tick {port[0]}"])
            self.refused(len(log), port, book, log + [f"tick {port[0]}"] * 3)

    def test_sizes_end_soon(self):
        course = (((0, 1, 2, 3), ()),) + (((), ()),) * 15
        log = log_of(LARGE, BOOK, course)
        self.assertEqual(read_log(LARGE, BOOK, log), course)
        self.refused(len(log), LARGE, BOOK, log + ["x"] * 100000)


class JournalTest(Case):
    def test_told_journals(self):
        self.assertEqual(journal(P, BOOK, COURSE), JOURNAL)
        self.assertEqual(read_journal(P, BOOK, JOURNAL), COURSE)
        self.assertEqual(journal(P, BOOK, ()), "")
        self.assertEqual(read_journal(P, BOOK, ""), ())

    def test_some_cases(self):
        for rng, port, book in some_cases(6, 150):
            for ticks in range(port[0] + 1):
                course, _ = rng.choice(plain_courses(port, book, ticks))
                lines = []
                for tick, block in enumerate(plain_blocks(port, book, course)):
                    lines += [clock(tick) + " " + line for line in block]
                self.assertEqual(journal(port, book, course), "\n".join(lines))
                self.assertEqual(read_journal(port, book, "\n".join(lines)), course)

    def test_long_day(self):
        port = (40, 9, (9,) * 40, ((5, 9),), ((5, 9, 0, 0, 1),), 0)
        course = (((0,), ()),) + (((), ()),) * 39
        text = journal(port, BOOK, course)
        self.assertTrue(text.endswith("0/09:45 tick 39"))
        self.assertEqual(read_journal(port, BOOK, text), course)

    def test_other_clock_texts(self):
        lines = JOURNAL.split("\n")
        for k in range(len(lines)):
            time, _, rest = lines[k].partition(" ")
            for other in ["0/00:00", "0/00:15", "0/00:30", "0/00:45", "0/01:00", "1/00:00", "00/00:00", "0/0:00", "", "0/00:0", "0"]:
                if other != time:
                    self.no_journal("\n".join(lines[:k] + [f"{other} {rest}"] + lines[k + 1:]))
            for other in [rest, f"{time}  {rest}", f"{time}{rest}", f" {time} {rest}", f"{time} {rest} ", time, f"{time} "]:
                self.no_journal("\n".join(lines[:k] + [other] + lines[k + 1:]))

    def test_lines_cut_and_exchanged(self):
        lines = JOURNAL.split("\n")
        right = {journal(P, BOOK, course) for ticks in range(5) for course, _ in plain_courses(P, BOOK, ticks)}
        for k in range(len(lines)):
            for told in [lines[:k] + lines[k + 1:], lines[:k], lines[k:], lines[:k + 1] + lines[k:], lines[:k] + [""] + lines[k:]] + [
                    lines[:k] + [lines[j]] + lines[k + 1:j] + [lines[k]] + lines[j + 1:] for j in range(k + 1, len(lines))]:
                text = "\n".join(told)
                if text in right:
                    self.assertEqual(journal(P, BOOK, read_journal(P, BOOK, text)), text)
                else:
                    self.no_journal(text)
        for k in range(1, len(JOURNAL)):
            if JOURNAL[:k] not in right:
                self.no_journal(JOURNAL[:k])
            for sign in "0 1x\n:":
                text = JOURNAL[:k] + sign + JOURNAL[k + 1:]
                if text not in right:
                    self.no_journal(text)
        for text in ["\n", " ", JOURNAL + "\n", "\n" + JOURNAL, "\n".join(LOG), JOURNAL + "\n0/01:00 tick 4", "x" * 100000]:
            self.no_journal(text)


if __name__ == "__main__":
    unittest.main()
