"""How many figures of a class there are of each size when their beads are named apart."""

from figurebook.errors import NoNames
from figurebook.labels import chosen
from figurebook.rules import Bag, By, Ring, Row
from figurebook.tally import count_by, fill, needs_of, splittings


def named(book, name, size):
    """The sum of the namings of all figures of a class that have so many beads, reckoned without the list."""
    rule = book.rule(name)
    if book.choices(name):
        raise NoNames("the class speaks of choices")
    known = {}

    def needs(asked):
        return needs_of(book, asked[0], asked[1])

    def deed(asked):
        return named_by(book, known, asked[0], asked[1])

    fill(known, (rule, size), needs, deed)
    return known[(rule, size)]


def named_by(book, known, rule, size):
    """The named count of a rule and a size, by those that it needs."""
    if isinstance(rule, By):
        return sum([
            chosen(size, one_size) * known[(rule.one, one_size)] * known[(rule.other, other_size)]
            for one_size, other_size in splittings(book, rule, size)
        ])
    if isinstance(rule, (Row, Bag, Ring)):
        return named_many(rule, [0] + [known[(rule.part, k)] for k in range(1, size + 1)])[size]
    # The others neither share their beads out nor give them an order, so they are counted as without names.
    return count_by(book, known, rule, size)


def named_many(rule, a):
    """The named counts of a Row, Bag or Ring, by those of its part."""
    if isinstance(rule, Row):
        return named_rows(a)
    if isinstance(rule, Bag):
        return named_bags(a)
    return named_rings(a)


def named_rows(a):
    rows = [1]
    for size in range(1, len(a)):
        rows.append(sum([chosen(size, k) * a[k] * rows[size - k] for k in range(1, size + 1)]))
    return rows


def named_bags(a):
    bags = [1]
    for size in range(1, len(a)):
        bags.append(beside_first_name(a, bags, size))
    return bags


def named_rings(a):
    rows = named_rows(a)
    return [0] + [beside_first_name(a, rows, size) for size in range(1, len(a))]


def beside_first_name(a, others, size):
    """How many there are where the others stand beside the part that has the first name: so it is no other part."""
    return sum([chosen(size - 1, k - 1) * a[k] * others[size - k] for k in range(1, size + 1)])
