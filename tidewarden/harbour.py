"""The harbour: a port and a book that run tick by tick, where each deed can be taken back."""

from tidewarden.bills import paid
from tidewarden.books import choice
from tidewarden.errors import NothingToUndo, Over
from tidewarden.logs import lines_of
from tidewarden.outlooks import Outlook
from tidewarden.ports import start_state
from tidewarden.promises import broken
from tidewarden.ticking import arrived, tick_after


class Harbour:
    """A port with a book, what was done in it since the start of the day, and the deeds to take back."""

    def __init__(self, port, book=()):
        self._port = port
        self._book = book
        self._done = ()
        self._triples = ()
        self._past = []

    @property
    def left(self):
        """The number of the ticks that are left."""
        return self._port[0] - len(self._done)

    @property
    def state(self):
        """The state at the end of what is done."""
        return self._triples[-1][2] if self._triples else start_state(self._port)

    def __len__(self):
        return len(self._done)

    def __eq__(self, other):
        if not isinstance(other, Harbour):
            return False
        if self._port != other._port or self._book != other._book:
            return False
        return self._done == other._done and self._triples == other._triples

    def step(self, arrivals=(), stops=()):
        """Do a tick with the movement that the book chooses, and return it."""
        # Behind the day and after arrivals that cannot happen any choice will do, since the tick is refused.
        movement = choice(self._book, self._port, len(self), arrived(self.state, arrivals))
        self.guided(movement, arrivals=arrivals, stops=stops)
        return movement

    def guided(self, movement, *, arrivals=(), stops=()):
        """Do a tick with a told movement."""
        if self.left == 0:
            raise Over("the day is over")
        middle, after = tick_after(self._port, len(self), self.state, arrivals, movement, stops)
        self._remember()
        self._done = self._done + ((arrivals, stops),)
        self._triples = self._triples + ((movement, middle, after),)

    def set_book(self, book):
        """Put another book in the place of the book from now on."""
        self._remember()
        self._book = book

    def undo(self):
        """Take back the last deed."""
        if not self._past:
            raise NothingToUndo("no deed is left")
        self._book, self._done, self._triples = self._past.pop()

    def _remember(self):
        """Keep all that a deed can change."""
        self._past.append((self._book, self._done, self._triples))

    def book(self):
        """Return the book."""
        return self._book

    def port(self):
        """Return the port."""
        return self._port

    def done(self):
        """Return the tuple of the pairs of the ticks that are done."""
        return self._done

    def movements(self):
        """Return the tuple of the movements of the ticks that are done."""
        return tuple([movement for movement, _, _ in self._triples])

    def events(self):
        """Return the list of the lines of the log of what is done."""
        return [line for lines in lines_of(self._done, self._triples) for line in lines]

    def breaks(self, promises):
        """Return the ascending list of the pairs of a tick that is done and the number of a promise broken at it."""
        found = []
        for tick, (_, middle, after) in enumerate(self._triples):
            for k, promise in enumerate(promises):
                if broken(self._port, promise, tick, middle, after):
                    found.append((tick, k))
        return found

    def will_keep(self, promises):
        """Tell whether the book keeps the promises from now to the end of the day."""
        _, way = Outlook(self._port, self._book, promises).search(len(self), self.state)
        return way is None

    def bill(self):
        """Return the list of the units that each vessel pays for the ticks that are done."""
        return paid(self._port, list(self._triples))
