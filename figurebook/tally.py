"""How many figures of a class there are of each size."""

from figurebook.books import least_of
from figurebook.rules import Bag, Bead, By, Choice, Named, Nothing, Or, Row
from figurebook.series import bag_counts, choice_counts, ring_counts, row_counts


class Tally:
    """The counts of a book's classes. What was reckoned is kept, since it never comes out otherwise."""

    def __init__(self, book):
        self.book = book
        self.known = {}

    def count(self, name, size):
        """How many figures of a class have so many beads."""
        return self.rule_count(self.book.rule(name), size)

    def upto(self, name, top):
        """The counts of a class from size 0 to the top."""
        rule = self.book.rule(name)
        return [self.rule_count(rule, size) for size in range(top + 1)]

    def rule_count(self, rule, size):
        """How many figures of a rule, of a class or of a part, have so many beads."""

        def needs(asked):
            return needs_of(self.book, asked[0], asked[1])

        def deed(asked):
            return count_by(self.book, self.known, asked[0], asked[1])

        fill(self.known, (rule, size), needs, deed)
        return self.known[(rule, size)]

    def part_counts(self, rule, top):
        """The counts of the part of a Row, Bag, Choice or Ring from size 0 to the top."""
        return [0] + [self.rule_count(rule.part, size) for size in range(1, top + 1)]


def fill(known, asked, needs, deed):
    """Keeps in known what deed(asked) tells, and ahead of it what it needs: needs(asked) is a list of further ones.

    A loop, and nothing but what is needed: the greater counts of other sizes and classes may be beyond all bounds.
    """
    waiting = [asked]
    while waiting:
        one = waiting.pop()
        if one in known:
            continue
        missing = [other for other in needs(one) if other not in known]
        if missing:
            waiting.append(one)
            waiting.extend(missing)
        else:
            known[one] = deed(one)


def needs_of(book, rule, size):
    """The rules and sizes of whose counts that of a rule and a size is reckoned."""
    if isinstance(rule, (Nothing, Bead)):
        return []
    if isinstance(rule, Named):
        return [(book.rule(rule.name), size)]
    if isinstance(rule, Or):
        return [(rule.one, size), (rule.other, size)]
    if isinstance(rule, By):
        return needs_of_pairs(rule, splittings(book, rule, size))
    # The least size last, since what stands last is reckoned first.
    return [(rule.part, part_size) for part_size in range(size, 0, -1)]


def needs_of_pairs(rule, sizes):
    """Both parts of a By, each with its size of these splittings."""
    found = []
    for one_size, other_size in sizes:
        found.extend([(rule.one, one_size), (rule.other, other_size)])
    return found


def splittings(book, rule, size):
    """The sizes of both parts of a By that make a size together: no part that is not hollow is without beads."""
    first = 0 if least_of(rule.one, book.least_by) == 0 else 1
    last = size if least_of(rule.other, book.least_by) == 0 else size - 1
    return [(one_size, size - one_size) for one_size in range(first, last + 1)]


def count_by(book, known, rule, size):
    """The count of a rule and a size, by those that it needs."""
    if isinstance(rule, Nothing):
        return 1 if size == 0 else 0
    if isinstance(rule, Bead):
        return 1 if size == 1 else 0
    if isinstance(rule, Named):
        return known[(book.rule(rule.name), size)]
    if isinstance(rule, Or):
        return known[(rule.one, size)] + known[(rule.other, size)]
    if isinstance(rule, By):
        sizes = splittings(book, rule, size)
        return sum([known[(rule.one, one)] * known[(rule.other, other)] for one, other in sizes])
    return many_counts(rule, [0] + [known[(rule.part, part)] for part in range(1, size + 1)])[size]


def many_counts(rule, a):
    """The counts of a Row, Bag, Choice or Ring, by those of its part."""
    if isinstance(rule, Row):
        return row_counts(a)
    if isinstance(rule, Bag):
        return bag_counts(a)
    if isinstance(rule, Choice):
        return choice_counts(a)
    return ring_counts(a)
