"""The console: a harbour that is led by lines of text."""

from tidewarden.books import MOST_RULES
from tidewarden.booktexts import rule_in, write_rule
from tidewarden.clocks import clock
from tidewarden.errors import BadText, Full, NoRule, NotAllowed, NothingToUndo, Over
from tidewarden.games import can_keep
from tidewarden.harbour import Harbour
from tidewarden.kinds import number_in
from tidewarden.papers import book_paper
from tidewarden.ports import AWAY, BERTHED, ROADS
from tidewarden.porttexts import pair_in, read_promise

MOST_PROMISES = 6


def movement_text(movement):
    """Return the text of a movement."""
    return " ".join([str(item) for item in movement])


def place_text(v, place):
    """Return the text of a vessel in a state, told by its triple."""
    where, one, two = place
    if where == AWAY:
        return f"{v} away"
    if where == ROADS:
        return f"{v} waits {one}"
    return f"{v} at {one} needs {two}" if where == BERTHED else f"{v} gone"


class Console:
    """A harbour and promises, and the commands that change them or ask for them."""

    def __init__(self, port):
        self._harbour = Harbour(port)
        self._promises = ()

    def enter(self, line):
        """Obey a line, and return the list of the texts of its result."""
        try:
            return self._obey(line)
        except BadText:
            return ["error BadText"]
        except Full:
            return ["error Full"]
        except NoRule:
            return ["error NoRule"]
        except NothingToUndo:
            return ["error NothingToUndo"]
        except Over:
            return ["error Over"]
        except NotAllowed:
            return ["error NotAllowed"]

    def _obey(self, line):
        """Return the list of the texts of a line's result; raise an error if it cannot be obeyed."""
        word, _, rest = line.partition(" ")
        if word == "rule":
            self._add_rule(rest)
        elif word == "unrule":
            self._leave_out_rule(rest)
        elif word == "promise":
            self._add_promise(rest)
        elif word == "arrive":
            return [self._do_tick(line)]
        elif line == "undo":
            self._harbour.undo()
        else:
            return self._answers(line)
        return ["ok"]

    def _add_rule(self, text):
        """Put the rule that has a text behind the rules of the book."""
        rule = rule_in(text)
        if rule is None:
            raise BadText("not the text of a rule")
        book = self._harbour.book()
        if len(book) >= MOST_RULES:
            raise Full("the book has no room")
        self._harbour.set_book(book + (rule,))

    def _leave_out_rule(self, text):
        """Leave out the rule of the book that has a number."""
        number = number_in(text)
        if number is None:
            raise BadText("not a number")
        book = self._harbour.book()
        if number >= len(book):
            raise NoRule("the book has fewer rules")
        self._harbour.set_book(book[:number] + book[number + 1:])

    def _add_promise(self, text):
        """Put the promise that has a text behind the promises."""
        promise = read_promise(self._harbour.port(), text)
        if len(self._promises) >= MOST_PROMISES:
            raise Full("there is no room for promises")
        self._promises = self._promises + (promise,)

    def _do_tick(self, line):
        """Do the tick that a line of the text of a course tells, and return the text of the movement."""
        pair = pair_in(line)
        if pair is None:
            raise BadText("not a line of a course")
        return movement_text(self._harbour.step(pair[0], pair[1]))

    def _answers(self, line):
        """Return the list of the texts that answer a line."""
        if line == "book":
            return [write_rule(rule) for rule in self._harbour.book()]
        if line == "log":
            return self._harbour.events()
        if line == "state":
            return [place_text(v, place) for v, place in enumerate(self._harbour.state[0])]
        return [self._answer(line)]

    def _answer(self, line):
        """Return the only text that answers a line."""
        if line == "tick":
            return clock(len(self._harbour))
        if line == "keeps":
            word, told = book_paper(self._harbour.port(), self._harbour.book(), self._promises)
            return "yes" if word == "kept" else f"no {len(told)}"
        if line == "could":
            return "yes" if can_keep(self._harbour.port(), self._promises) else "no"
        if line == "broken":
            breaks = self._harbour.breaks(self._promises)
            return " ".join([f"{tick}.{k}" for tick, k in breaks]) or "none"
        if line == "bill":
            return " ".join([str(units) for units in self._harbour.bill()])
        raise BadText("not a command")
