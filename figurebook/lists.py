"""All figures of a class and a size, in their order."""

from figurebook.errors import TooMany
from figurebook.figures import least_start, made_of
from figurebook.fits import kind_asked
from figurebook.rules import Bag, Bead, By, Choice, Named, Nothing, Or, Ring, Row
from figurebook.series import row_counts
from figurebook.tally import Tally, fill, many_counts, needs_of, needs_of_pairs, splittings

MOST = 400


def listed(book, name, size):
    """The figures of a class that have so many beads, rising by their keys."""
    tally = Tally(book)
    refuse_too_many(tally, name, size)
    return list_made(tally, name, size)


def refuse_too_many(tally, name, size):
    if tally.count(name, size) > MOST:
        raise TooMany(f"there are more than {MOST} figures")


def list_made(tally, name, size):
    """The list of a class and a size, whose count is not above the bound."""
    rule = tally.book.rule(name)
    lists = {}

    def needs(asked):
        return lists_needed(tally, asked[0], asked[1])

    def deed(asked):
        return figures_by(tally, lists, asked[0], asked[1])

    fill(lists, (rule, size), needs, deed)
    return lists[(rule, size)]


def lists_needed(tally, rule, size):
    """The rules and sizes of whose figures those of a rule and a size are made.

    None that no figure is made of: its list may be beyond all bounds, where this one is not.
    """
    if isinstance(rule, By):
        return needs_of_pairs(rule, pair_sizes(tally, rule, size))
    if isinstance(rule, (Row, Bag, Choice, Ring)):
        return [(rule.part, part_size) for part_size in part_sizes(tally, rule, size)]
    return needs_of(tally.book, rule, size)


def pair_sizes(tally, rule, size):
    """The splittings of a size that some pair of a By has, the first part's size rising."""
    return [
        (one_size, other_size) for one_size, other_size in splittings(tally.book, rule, size)
        if tally.rule_count(rule.one, one_size) > 0 and tally.rule_count(rule.other, other_size) > 0
    ]


def part_sizes(tally, rule, size):
    """The sizes that parts have in the figures of a Row, Bag, Choice or Ring; others only where few parts have them."""
    return [k for k in range(1, size + 1) if k == size or tally.rule_count(rule, size - k) > 0]


def figures_by(tally, lists, rule, size):
    """The figures of a rule and a size in their order, by the lists that they need."""
    if tally.rule_count(rule, size) == 0:
        return []
    if isinstance(rule, Nothing):
        return [("nothing",)]
    if isinstance(rule, Bead):
        return [("bead", rule.colour)]
    if isinstance(rule, Named):
        return lists[(tally.book.rule(rule.name), size)]
    if isinstance(rule, Or):
        lefts = [("left", figure) for figure in lists[(rule.one, size)]]
        return lefts + [("right", figure) for figure in lists[(rule.other, size)]]
    if isinstance(rule, By):
        return [
            ("pair", one, other) for one_size, other_size in pair_sizes(tally, rule, size)
            for one in lists[(rule.one, one_size)] for other in lists[(rule.other, other_size)]
        ]
    return many_figures(tally, lists, rule, size)


def many_figures(tally, lists, rule, size):
    """The figures of a Row, Bag, Choice or Ring and a size in their order, by the lists that they need."""
    found = ranks_of(rule, tally.part_counts(rule, size))
    return [made_of(kind_asked(rule), [lists[(rule.part, k)][number] for k, number in ranks]) for ranks in found]


def ranks_of(rule, a):
    """The figures of a Row, Bag, Choice or Ring in their order, there being some; a counts the part, up to their size.

    Each is the tuple of its parts, put as (size, number): of such parts, too, that one goes first which is less.
    """
    if isinstance(rule, Row):
        return row_ranks(a)
    if isinstance(rule, Ring):
        return [ranks for ranks in row_ranks(a) if least_start(ranks) == 0]
    return poured_ranks(rule, a)


def row_ranks(a):
    """The rows, made from their ends; an end that no row of the size has is left out, since such may abound."""
    size = len(a) - 1
    ahead = row_counts(a)
    ends = [[()]]
    for total in range(1, size + 1):
        ends.append(longer_rows(a, ends) if ahead[size - total] > 0 else [])
    return ends[size]


def longer_rows(a, shorter):
    """The rows of the size behind all shorter ones, in their order."""
    size = len(shorter)
    return [
        ((k, number),) + rest for k in range(1, size + 1) if len(shorter[size - k]) > 0
        for number in range(a[k]) for rest in shorter[size - k]
    ]


def poured_ranks(rule, a):
    """The bags or choices, made by putting in the parts of size 1, then those of size 2, and so on."""
    size = len(a) - 1
    found = [[()]] + [[] for total in range(size)]
    for k in range(1, size + 1):
        # What greater parts can't fill up to the size is left out, since such may abound.
        ahead = many_counts(rule, [0] * (k + 1) + a[k + 1:])
        found = [fuller(rule, a, k, found[:total + 1]) if ahead[size - total] > 0 else [] for total in range(size + 1)]
    return sorted(found[size])


def fuller(rule, a, k, found):
    """The bags or choices of the last total of those found, of parts up to the size k, by those of lesser parts."""
    total = len(found) - 1
    return [
        taken + rest for many in range(total // k + 1) if len(found[total - many * k]) > 0
        for taken in takings(rule, k, a[k], many) for rest in found[total - many * k]
    ]


def takings(rule, k, things, many):
    """The ways to take so many of some things of size k, each falling: twins are in no choice."""
    found = [()]
    for place in range(many):
        found = [
            ((k, number),) + rest for number in range(things) for rest in found
            if len(rest) == 0 or number > rest[0][1] or number == rest[0][1] and isinstance(rule, Bag)
        ]
    return found
