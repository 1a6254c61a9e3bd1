"""The texts of rule books."""

from tidewarden.books import MOST_RULES, is_rule
from tidewarden.errors import BadLine
from tidewarden.kinds import number_in


def write_rule(rule):
    """Return the text of a rule."""
    conditions, deed = rule
    words = "do " + " ".join(deed)
    if not conditions:
        return words
    texts = ", ".join([f"{field} {low}-{high}" for field, low, high in conditions])
    return f"when {texts} {words}"


def write_book(book):
    """Return the text of a book."""
    return "\n".join([write_rule(rule) for rule in book])


def condition_in(text):
    """Return the triple of a condition's text, with None for a number that is none."""
    field, _, numbers = text.partition(" ")
    low, _, high = numbers.partition("-")
    return (field, number_in(low), number_in(high))


def rule_in(line):
    """Return the rule that has a text, or None if there is none."""
    conditions = ()
    rest = line
    if line.startswith("when "):
        told, _, deed = line.removeprefix("when ").partition(" do ")
        conditions = tuple([condition_in(text) for text in told.split(", ")])
        rest = f"do {deed}"
    if not rest.startswith("do "):
        return None
    rule = (conditions, tuple(rest.removeprefix("do ").split(" ")))
    return rule if is_rule(rule) else None


def read_book(text):
    """Return the book that has a text; raise BadLine if there is none."""
    if text == "":
        return ()
    lines = text.split("\n")
    rules = [rule_in(line) for line in lines[:MOST_RULES]]
    if None in rules:
        raise BadLine(rules.index(None))
    if len(lines) > MOST_RULES:
        raise BadLine(MOST_RULES)
    return tuple(rules)
