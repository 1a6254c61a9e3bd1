"""Papers that a book keeps its promises in all courses, or a course in which it breaks one."""

from tidewarden.kinds import is_marked
from tidewarden.outlooks import Outlook
from tidewarden.ports import start_state


def book_paper(port, book, promises):
    """Return a paper with layers of states, or with the first one of the shortest courses that break a promise."""
    layers, course = Outlook(port, book, promises).search(0, start_state(port))
    return ("kept", layers) if course is None else ("course", course)


def check_book(port, book, promises, value):
    """Tell whether any value is a right paper for a port, a book and promises."""
    outlook = Outlook(port, book, promises)
    if is_marked(value, "kept", 2):
        return outlook.are_layers_from(0, start_state(port), value[1])
    return is_marked(value, "course", 2) and outlook.is_way(0, start_state(port), value[1])


def keeps(port, book, promises):
    """Tell whether a book keeps the promises in all courses."""
    return book_paper(port, book, promises)[0] == "kept"
