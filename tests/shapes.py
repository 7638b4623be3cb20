"""What the tests share: rules as nested tuples, so that like rules are equal; and books of rows of text."""

from figurebook.books import Book
from figurebook.reading import read_rule
from figurebook.rules import Bag, Bead, By, Choice, Named, Nothing, Or, Ring, Row

TWO_PARTS = (Or, By)
ONE_PART = (Row, Bag, Choice, Ring)
NINE = (Nothing, Bead) + TWO_PARTS + ONE_PART + (Named,)


def shape(rule):
    """The kind of a rule, its colour or name, and the shapes of the rules that it is made of."""
    kind = type(rule)
    if kind is Nothing:
        return (kind.__name__,)
    if kind is Bead:
        return (kind.__name__, rule.colour)
    if kind is Named:
        return (kind.__name__, rule.name)
    if kind in TWO_PARTS:
        return (kind.__name__, shape(rule.one), shape(rule.other))
    if kind in ONE_PART:
        return (kind.__name__, shape(rule.part))
    raise AssertionError(f"no kind of rule: {kind}")


def rules_of(many, leaves):
    """All rules made of so many rules, itself counted, over some leaves (functions that make one)."""
    if many == 1:
        return [leaf() for leaf in leaves]
    found = [kind(part) for part in rules_of(many - 1, leaves) for kind in ONE_PART]
    for first in range(1, many - 1):
        for one in rules_of(first, leaves):
            for other in rules_of(many - 1 - first, leaves):
                found.extend(kind(one, other) for kind in TWO_PARTS)
    return found


def pairs_of(*rows):
    """A list of tuples (name, rule), of rows as "tree = bead red by bag of tree"."""
    return [(name, read_rule(text)) for name, text in (row.split(" = ") for row in rows)]


def book_of(*rows):
    return Book(pairs_of(*rows))
