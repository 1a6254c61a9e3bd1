import random
import unittest

from plain_papers import holds_from
from some_ports import P, plain_start, plain_ticks, some_book, some_port, some_promise
from test_logs import LOG

from tidewarden.booktexts import write_book, write_rule
from tidewarden.clocks import clock
from tidewarden.console import Console
from tidewarden.harbour import Harbour
from tidewarden.papers import book_paper
from tidewarden.porttexts import write_course, write_promise

RULES = ["do out first", "do in first first"]
QUESTIONS = ["book", "log", "state", "tick", "keeps", "could", "broken", "bill"]
BAD = ["error BadText"]


class Case(unittest.TestCase):
    def console(self, lines=(), port=P):
        console = Console(port)
        for line in lines:
            result = console.enter(line)
            self.assertFalse(result[0].startswith("error"), (line, result))
        return console

    def told(self, console, *pairs):
        for line, result in pairs:
            found = console.enter(line)
            self.assertIs(type(found), list)
            self.assertTrue(all(type(text) is str for text in found))
            self.assertEqual(found, result, line)


def all_of(console):
    return [console.enter(line) for line in QUESTIONS]


class CommandTest(Case):
    def test_start(self):
        self.told(
            Console(P), ("book", []), ("log", []), ("state", ["0 away", "1 away"]), ("tick", ["0/00:00"]), ("keeps", ["yes"]),
            ("could", ["yes"]), ("broken", ["none"]), ("bill", ["0 0"]), ("undo", ["error NothingToUndo"]))

    def test_told_day(self):
        console = Console(P)
        self.told(
            console, ("rule do out first", ["ok"]), ("rule do in first first", ["ok"]), ("book", RULES),
            ("promise gone 0 by 3", ["ok"]), ("promise waits 0 most 1", ["ok"]), ("keeps", ["no 3"]), ("could", ["no"]),
            ("arrive 1 stop -", ["in 1 0"]), ("state", ["0 away", "1 at 0 needs 1"]), ("tick", ["0/00:15"]),
            ("arrive 0 stop -", ["none"]), ("state", ["0 waits 1", "1 at 0 needs 0"]), ("bill", ["0 6"]), ("log", LOG[:6]),
            ("arrive - stop -", ["out 1"]), ("state", ["0 waits 2", "1 gone"]), ("bill", ["6 6"]), ("broken", ["2.1"]),
            ("arrive - stop -", ["in 0 0"]), ("log", LOG), ("broken", ["2.1 3.0"]), ("tick", ["0/01:00"]),
            ("arrive - stop -", ["error Over"]), ("keeps", ["no 3"]), ("undo", ["ok"]), ("tick", ["0/00:45"]),
            ("broken", ["2.1"]), ("arrive - stop 1", ["error NotAllowed"]), ("arrive 0 stop -", ["error NotAllowed"]))

    def test_rules(self):
        console = self.console(["rule " + rule for rule in RULES])
        self.told(
            console, ("unrule 2", ["error NoRule"]), ("book", RULES), ("unrule 0", ["ok"]), ("book", RULES[1:]),
            ("unrule 1", ["error NoRule"]), ("unrule 0", ["ok"]), ("unrule 0", ["error NoRule"]), ("book", []),
            ("undo", ["ok"]), ("book", RULES[1:]), ("undo", ["ok"]), ("book", RULES), ("undo", ["ok"]), ("book", RULES[:1]),
            ("undo", ["ok"]), ("undo", ["error NothingToUndo"]), ("book", []), ("unrule 999999999", ["error NoRule"]))
        rule = "when tick 0-3, tide 5-5, stops 1-999 do in deepest tightest"
        self.told(console, ("rule " + rule, ["ok"]), ("book", [rule]), ("rule do none", ["ok"]), ("book", [rule, "do none"]))

    def test_rule_left_out_in_the_middle(self):
        console = self.console(["rule do none", "rule do out first", "rule do out last"])
        self.told(console, ("unrule 1", ["ok"]), ("book", ["do none", "do out last"]), ("unrule 1", ["ok"]), ("book", ["do none"]))

    def test_full_book(self):
        console = self.console([f"rule when tick {k}-{k} do none" for k in range(12)])
        before = all_of(console)
        self.told(console, ("rule do none", ["error Full"]), ("rule do nothing", BAD))
        self.assertEqual(all_of(console), before)
        self.told(console, ("unrule 11", ["ok"]), ("rule do none", ["ok"]), ("rule do none", ["error Full"]))
        self.assertEqual(len(console.enter("book")), 12)

    def test_full_promises(self):
        console = self.console(["promise roads most 0"] * 6)
        self.told(
            console, ("promise roads most 1", ["error Full"]), ("promise roads most 5", BAD), ("undo", ["error NothingToUndo"]),
            ("arrive 0 1 stop -", ["none"]), ("broken", ["0.0 0.1 0.2 0.3 0.4 0.5"]), ("undo", ["ok"]),
            ("promise roads most 1", ["error Full"]), ("broken", ["none"]), ("keeps", ["no 1"]))

    def test_promises_stay(self):
        console = self.console(["arrive 1 stop -", "promise waits 1 most 0"])
        self.told(
            console, ("broken", ["0.0"]), ("undo", ["ok"]), ("broken", ["none"]), ("undo", ["error NothingToUndo"]),
            ("arrive 0 1 stop -", ["none"]), ("broken", ["0.0"]), ("keeps", ["no 1"]), ("could", ["yes"]))

    def test_questions_change_nothing(self):
        console = self.console(["rule do in first first", "promise gone 0 by 3", "arrive 1 stop 0"])
        before = all_of(console)
        self.assertEqual(all_of(console), before)
        self.told(console, ("undo", ["ok"]), ("undo", ["ok"]), ("undo", ["error NothingToUndo"]))

    def test_results_are_new(self):
        console = self.console(["rule " + rule for rule in RULES] + ["arrive 1 stop -"])
        for line in QUESTIONS + ["undo"]:
            before = all_of(console)
            console.enter(line).append("x")
            if line != "undo":
                self.assertEqual(all_of(console), before)
        self.told(console, ("arrive 1 stop -", ["in 1 0"]), ("undo", ["ok"]), ("promise afloat", ["ok"]))

    def test_refused_ticks(self):
        console = self.console(["rule do in first first"])
        before = all_of(console)
        for line in [
                "arrive 0 stop -", "arrive - stop -", "arrive 2 stop -", "arrive 0 1 9 stop -", "arrive 1 stop 1",
                "arrive 1 stop 0 1", "arrive 0 1 2 3 4 5 6 7 8 9 stop 0 1 2 3 4 5 6 7 8 9"]:
            self.told(console, (line, ["error NotAllowed"]))
            self.assertEqual(all_of(console), before)
        self.told(console, ("arrive 1 stop 0", ["in 1 0"]), ("state", ["0 away", "1 at 0 needs 2"]))
        self.told(console, ("arrive 0 stop 0", ["error NotAllowed"]), ("arrive 0 stop -", ["none"]))


class FormTest(Case):
    def test_lines_of_no_form(self):
        lines = ["promise roads most 0", "rule do in first first", "arrive 1 stop -"]
        console = self.console(lines)
        before = all_of(console)
        good = QUESTIONS + ["undo", "arrive 0 stop -", "rule do none", "unrule 0", "promise afloat", "promise gone 0 by 3",
                            "rule when tick 0-3, tide 5-5 do in deepest tightest"]
        bad = [
            "", " ", "x", "rule", "rule ", "unrule", "unrule ", "promise", "promise ", "arrive", "arrive ", "help", "unrule x",
            "unrule -1", "unrule 00", "unrule 01", "unrule 1000000000", "unrule 0000000000", "unrule 9999999999", "unrule 0 0",
            "unrule 0.", "unrule 1 2", "undo 1", "undo undo", "book book", "book 0", "log 1", "state 0", "tick 0", "keeps 1",
            "keeps yes", "could 1", "broken 0", "bill 0", "rule do", "rule do out", "rule out first", "rule do out first last",
            "rule do in first", "rule do in first last", "rule do in oldest longest", "rule do none none", "rule do nothing",
            "rule when do none", "rule when tick 0-1000 do none", "rule when tick 2-1 do none", "rule when tick 00-1 do none",
            "rule when tick 0-1,tide 0-1 do none", "rule when tick 0-1, do none", "rule when tick 0-1", "rule when tick 0-1 none",
            "rule when tick 0-1, tick 0-1, tick 0-1, tick 0-1 do none", "rule Do none", "rule rule do none", "rule  do none",
            "promise gone 2 by 3", "promise gone 0 by 4", "promise gone 0 by 03", "promise gone 0 3", "promise roads 1",
            "promise roads most 5", "promise waits 0 most 41", "promise afloat 0", "promise apart 0 0", "promise apart 0 2",
            "promise  afloat", "promise promise afloat", "promise Afloat", "arrive 0", "arrive - stop", "arrive stop -",
            "arrive 10 stop -", "arrive 00 stop -", "arrive 1 0 stop -", "arrive 0 0 stop -", "arrive 0 stop - -", "arrive - stop 2 1",
            "arrive 0  stop -", "arrive  0 stop -", "arrive 0 stop  -", "arrive - 0 stop -", "arrive 0 stop -1", "stop - arrive 0",
            "step", "guided none", "set_book", "left", "len", "ok", "none", "in 0 0", "out 0", "error BadText", "0", "-"]
        for line in good:
            bad += [" " + line, line + " ", line.upper(), line.capitalize(), line.replace(" ", "  "), line + " x", line + ".", "\t" + line]
            if " " in line:
                bad += [line.replace(" ", ""), line.replace(" ", "\t"), line.replace(" ", "_"), line.split(" ")[0]]
            bad += [line[:-1], line[1:]] if line not in ("unrule 0",) else [line[1:]]
        kept = [line for line in bad if line in good]
        for line in bad:
            if line not in kept:
                self.told(console, (line, BAD))
        self.assertEqual(all_of(console), before)
        self.told(console, ("undo", ["ok"]), ("undo", ["ok"]), ("undo", ["error NothingToUndo"]))

    def test_form_comes_first(self):
        full = self.console([f"rule when tick {k}-{k} do none" for k in range(12)] + ["promise afloat"] * 6)
        self.told(full, ("rule do", BAD), ("promise gone", BAD), ("unrule x", BAD), ("arrive 0 stop x", BAD))
        over = self.console(["arrive 0 1 stop -"] + ["arrive - stop -"] * 3)
        self.told(
            over, ("arrive - stop x", BAD), ("arrive 0 1 2 stop -", ["error Over"]), ("arrive - stop 0", ["error Over"]),
            ("tick", ["0/01:00"]))

    def test_numbers_of_nine_digits(self):
        self.told(
            Console(P), ("unrule 999999999", ["error NoRule"]), ("unrule 1000000000", BAD), ("unrule 0", ["error NoRule"]),
            ("unrule 000000000", BAD))


class SomeDaysTest(Case):
    def test_some_days(self):
        rng = random.Random(1)
        counts = {}
        for _ in range(60):
            port = some_port(rng, 4, 2, 2)
            console, harbour, promises = Console(port), Harbour(port), []
            for _ in range(25):
                kind = rng.choice(("rule", "unrule", "promise", "arrive", "arrive", "undo"))
                if kind == "rule":
                    rule = rng.choice(some_book(rng) or (((), ("none",)),))
                    right = ["ok"] if len(harbour.book()) < 12 else ["error Full"]
                    result = console.enter("rule " + write_rule(rule))
                    if right == ["ok"]:
                        harbour.set_book(harbour.book() + (rule,))
                elif kind == "unrule":
                    number = rng.randint(0, 3)
                    right = ["ok"] if number < len(harbour.book()) else ["error NoRule"]
                    result = console.enter(f"unrule {number}")
                    if right == ["ok"]:
                        harbour.set_book(tuple(rule for k, rule in enumerate(harbour.book()) if k != number))
                elif kind == "promise":
                    promise = some_promise(rng, port)
                    right = ["ok"] if len(promises) < 6 else ["error Full"]
                    result = console.enter("promise " + write_promise(promise))
                    promises += [promise] if right == ["ok"] else []
                elif kind == "arrive":
                    rows = plain_ticks(port, harbour.book(), min(len(harbour), port[0] - 1), harbour.state)
                    arrivals, stops, movement, *_ = rng.choice(rows)
                    right = [" ".join(map(str, movement))]
                    if harbour.left == 0:
                        right = ["error Over"]
                    else:
                        harbour.step(arrivals, stops)
                    result = console.enter(write_course(((arrivals, stops),)))
                else:
                    try:
                        right = ["ok"]
                        harbour.undo()
                    except ValueError:
                        right = ["error NothingToUndo"]
                    result = console.enter("undo")
                self.assertEqual(result, right)
                counts[kind, right[0][:5]] = counts.get((kind, right[0][:5]), 0) + 1
                self.look(console, port, harbour, tuple(promises))
        self.assertGreaterEqual(len(counts), 11)

    def look(self, console, port, harbour, promises):
        places = []
        for v, (where, one, two) in enumerate(harbour.state[0]):
            places.append(f"{v} " + ("away", f"waits {one}", f"at {one} needs {two}", "gone")[where])
        word, told = book_paper(port, harbour.book(), promises)
        breaks = harbour.breaks(promises)
        self.told(
            console, ("book", write_book(harbour.book()).split("\n") if harbour.book() else []), ("log", harbour.events()),
            ("state", places), ("tick", [clock(len(harbour))]), ("keeps", ["yes"] if word == "kept" else [f"no {len(told)}"]),
            ("could", ["yes" if holds_from(port, promises, 0, plain_start(port)) else "no"]),
            ("broken", [" ".join(f"{tick}.{k}" for tick, k in breaks)] if breaks else ["none"]),
            ("bill", [" ".join(map(str, harbour.bill()))]))


if __name__ == "__main__":
    unittest.main()
