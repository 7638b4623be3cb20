"""What the tests share of books: small ones, and all figures of their classes, made without the program."""

import functools
import itertools

from figurebook.errors import FigureError
from figurebook.books import Book
from figurebook.rules import Bead, Named, Nothing
from tests.shapes import pairs_of, rules_of, shape
from tests.written import key_told, plain_told, size_told

# Each with the greatest size to which all figures are gone through.
SMALL_BOOKS = (
    (5, ("x = nothing", "y = bead red", "z = x or y", "w = y by z", "v = row of y", "u = bag of y", "t = ring of y")),
    (6, ("tree = bead red by bag of tree", "wood = bag of tree", "mob = choice of tree", "band = ring of tree")),
    (5, ("a = bead red or bead blue", "b = row of a", "c = bag of a", "d = choice of a", "e = ring of a")),
    (5, ("a = ring of ring of ( bead red or bead blue )", "b = ring of ( bead red by ring of bead blue or bead red )")),
    (6, ("a = bag of ( bead red by bag of b )", "b = bead blue by bag of bead red")),
    (6, ("a = choice of ( bead red by choice of b )", "b = bead blue by choice of ( bead red or bead blue )")),
    (6, ("a = b by b", "b = bag of bead red", "c = b by a by b", "d = bead red by c", "e = c by bead red by b")),
    (5, ("a = b or c", "b = c or d by e", "c = bag of d", "d = bead red or ring of bead red", "e = nothing or d")),
    (6, ("odd = bead red by even", "even = nothing or bead blue by odd", "both = odd or even", "x = x by bead red")),
    (6, ("x = x by bead red", "y = bead red by x or bead red", "z = row of x", "w = ring of x", "v = choice of x")),
    (5, ("a = bead red or a by a", "b = choice of a", "c = ring of a")),
    (5, ("a = bead red by row of ( b or a )", "b = bead blue by choice of a", "c = ring of ( a or b )")),
    (3, ("a = nothing or nothing", "b = a by a", "c = b by b by bead red", "d = bag of c", "e = choice of c")),
    (5, ("a = nothing or bead red by a", "b = a by a", "c = b by b", "d = b or a by c")),
    (7, ("a = choice of ( bead red or bead red by bead red )", "b = choice of ( bead red or c )",
         "c = bead blue by bead blue by bead blue", "d = choice of ring of bead red")),
    (5, ("a = ring of b", "b = bead red by bag of ring of c", "c = bead blue or choice of bead red by bead red")),
)


def rows_within(parts, most):
    """All tuples of parts with beads, of at most so many beads in all."""
    found, last = [()], [()]
    while last:
        last = [row + (part,) for row in last for part in parts
                if size_told(part) + sum(map(size_told, row)) <= most]
        found.extend(last)
    return found


def figures_within(rule, sets, most):
    """The plain figures of a rule (as a shape) with at most so many beads, by those of the classes so far."""
    kind = rule[0]
    if kind == "Nothing":
        return {("nothing",)}
    if kind == "Bead":
        return {("bead", rule[1])} if most else set()
    if kind == "Named":
        return sets[rule[1]]
    parts = [figures_within(part, sets, most) for part in rule[1:]]
    if kind == "Or":
        return {(side, part) for side, some in zip(("left", "right"), parts) for part in some}
    if kind == "By":
        return {("pair", *both) for both in itertools.product(*parts) if sum(map(size_told, both)) <= most}
    rows = rows_within(parts[0], most)
    if kind == "Row":
        return {("row", row) for row in rows}
    if kind == "Ring":
        return {plain_told(("ring", row)) for row in rows if row}
    if kind == "Choice":
        rows = [row for row in rows if len(set(row)) == len(row)]
    return {(kind.lower(), tuple(sorted(row, key=key_told, reverse=True))) for row in rows}


def made_within(pairs, most):
    """For each name the plain figures of the class with at most so many beads: none at first, until no more come."""
    rules = {name: shape(rule) for name, rule in pairs}
    sets = {name: set() for name in rules}
    while True:
        anew = {name: figures_within(rule, sets, most) for name, rule in rules.items()}
        if anew == sets:
            return sets
        sets = anew


def by_size(figures, most):
    """The lists of figures of each size from 0 to the most, rising by their keys."""
    return [sorted((one for one in figures if size_told(one) == size), key=key_told) for size in range(most + 1)]


@functools.cache
def small_books():
    """Of each small book: it, its pairs, and by its names the lists of figures of each size."""
    found = []
    for most, rows in SMALL_BOOKS:
        found.append(with_figures(pairs_of(*rows), most))
    return found


@functools.cache
def smallest_books():
    """Books of one class x, of all rules of at most five rules that are not refused, beside a class y."""
    leaves = (Nothing, lambda: Bead("red"), lambda: Named("x"), lambda: Named("y"))
    found = []
    for many in range(1, 6):
        for rule in rules_of(many, leaves):
            pairs = [("x", rule)] + pairs_of("y = bead blue by bag of bead red")
            try:
                Book(pairs)
            except FigureError:
                continue
            found.append(with_figures(pairs, 4))
    return found


def with_figures(pairs, most):
    made = made_within(pairs, most)
    return Book(pairs), pairs, {name: by_size(figures, most) for name, figures in made.items()}
