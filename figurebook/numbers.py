"""The figure of a number, and the number of a figure, among all of a class and a size."""

from figurebook.errors import NoFit, NoSuch
from figurebook.figures import folded_over, made_of, parts_of, plain, size_of
from figurebook.fits import at_fault, bare_rule, kind_asked, rules_of_parts
from figurebook.labels import chosen
from figurebook.lists import list_made, refuse_too_many
from figurebook.rules import Bag, Bead, By, Choice, Or, Row
from figurebook.series import row_counts
from figurebook.tally import Tally, many_counts, splittings


def figure_of(book, name, size, number):
    """The figure of a number among those of a class that have so many beads."""
    tally = Tally(book)
    if book.rings(name):
        refuse_too_many(tally, name, size)
    if number < 0 or number >= tally.count(name, size):
        raise NoSuch("no figure has this number")
    if book.rings(name):
        return list_made(tally, name, size)[number]
    return figure_at(tally, book.rule(name), size, number)


def number_of(book, name, writing):
    """The number of a writing's plain figure among those of a class that have as many beads."""
    path = at_fault(book, name, writing)
    if path is not None:
        raise NoFit(path)
    tally = Tally(book)
    if book.rings(name):
        size = size_of(writing)
        refuse_too_many(tally, name, size)
        return list_made(tally, name, size).index(plain(writing))
    return place_of(tally, book.rule(name), plain(writing))[1]


def figure_at(tally, rule, size, number):
    """The figure of a number among those of a rule that have so many beads."""

    def parts(one):
        return parts_sought(tally, one[0], one[1], one[2])

    def deed(one, told):
        return figure_by(tally, one, told)

    return folded_over((rule, size, number), parts, deed)


def figure_by(tally, sought, parts):
    """The figure that is sought as (rule, size, number), by its parts."""
    rule = bare_rule(tally.book, sought[0])
    if isinstance(rule, Bead):
        return ("bead", rule.colour)
    if isinstance(rule, Or):
        lefts = tally.rule_count(rule.one, sought[1])
        return made_of("left" if sought[2] < lefts else "right", parts)
    return made_of(kind_asked(rule), parts)


def parts_sought(tally, named, size, number):
    """The parts of a figure that is sought by its rule, size and number, each sought likewise."""
    rule = bare_rule(tally.book, named)
    if isinstance(rule, Or):
        lefts = tally.rule_count(rule.one, size)
        return [(rule.one, size, number)] if number < lefts else [(rule.other, size, number - lefts)]
    if isinstance(rule, By):
        first, place, rest = block_place(pair_blocks(tally, rule, size), number)
        return [(rule.one, first, place), (rule.other, size - first, rest)]
    if isinstance(rule, (Row, Bag, Choice)):
        return [(rule.part, k, place) for k, place in many_places(rule, tally.part_counts(rule, size), number)]
    return []


def many_places(rule, a, number):
    """The sizes and numbers of the parts of the row, bag or choice of a number; a are the counts of the part."""
    if isinstance(rule, Row):
        return row_places(a, number)
    return poured_places(rule, a, number)


def place_of(tally, rule, figure):
    """The size of a figure, and its number among those of a rule that have as many beads."""

    def parts(one):
        return parts_with_rules(tally.book, one[0], one[1])

    def deed(one, told):
        return place_by(tally, bare_rule(tally.book, one[0]), one[1], told)

    return folded_over((rule, figure), parts, deed)


def parts_with_rules(book, rule, figure):
    """The parts of a figure, each behind the rule that it fits."""
    return list(zip(rules_of_parts(bare_rule(book, rule), figure), parts_of(figure)))


def place_by(tally, rule, figure, places):
    """The size and the number of a figure of a rule, by those of its parts."""
    if isinstance(rule, Bead):
        return (1, 0)
    size = sum([k for k, number in places])
    return (size, number_by(tally, rule, figure, size, places))


def number_by(tally, rule, figure, size, places):
    """The number of a figure, but no bead, of a rule and a size, by the sizes and numbers of its parts."""
    if isinstance(rule, Or):
        lefts = tally.rule_count(rule.one, size)
        return places[0][1] + (0 if figure[0] == "left" else lefts)
    if isinstance(rule, By):
        return block_number(pair_blocks(tally, rule, size), places[0], places[1][1])
    if isinstance(rule, Row):
        return row_number(tally.part_counts(rule, size), places)
    if isinstance(rule, (Bag, Choice)):
        return poured_number(rule, tally.part_counts(rule, size), places)
    return 0


def pair_blocks(tally, rule, size):
    """For each size of a By's first part: it, how many such parts there are, and how many second ones beside each."""
    return [
        (one_size, tally.rule_count(rule.one, one_size), tally.rule_count(rule.other, other_size))
        for one_size, other_size in splittings(tally.book, rule, size)
    ]


def row_blocks(a, rows, size):
    """For each size of a row's first part: it, how many such parts there are, and how many rows behind each."""
    return [(k, a[k], rows[size - k]) for k in range(1, size + 1)]


def block_place(blocks, number):
    """The first part's size and number, and the number of what stands beside it."""
    for k, many, beside in blocks:
        if number < many * beside:
            break
        number -= many * beside
    return (k, number // beside, number % beside)


def block_number(blocks, first, rest):
    """The number of what has this first part, told as (size, number), and beside it what has the number rest."""
    size, place = first
    number = sum([many * beside for k, many, beside in blocks if k < size])
    return number + sum([place * beside for k, many, beside in blocks if k == size]) + rest


def row_places(a, number):
    """The sizes and numbers of the parts of the row of a number, of the size of the last count."""
    rows = row_counts(a)
    size = len(a) - 1
    found = []
    while size > 0:
        k, place, number = block_place(row_blocks(a, rows, size), number)
        found.append((k, place))
        size -= k
    return found


def row_number(a, places):
    """The number of the row of these parts, reckoned from its end."""
    rows = row_counts(a)
    size = 0
    number = 0
    for place in reversed(places):
        size += place[0]
        number = block_number(row_blocks(a, rows, size), place, number)
    return number


def poured_places(rule, a, number):
    """The sizes and numbers of the parts of the bag or choice of a number, of the size of the last count."""
    total = len(a) - 1
    found = []
    while total > 0:
        k = greatest_size(rule, a, total, number)
        lesser = lesser_counts(rule, a, k)
        place = greatest_place(rule, lesser, (k, a[k]), total, number)
        number -= poured_before(rule, lesser, (k, place), total)
        found.append((k, place))
        total -= k
    return found


def greatest_size(rule, a, total, number):
    """The size of the greatest part of the bag or choice of a number."""
    k = 1
    while poured_before(rule, lesser_counts(rule, a, k), (k, a[k]), total) <= number:
        k += 1
    return k


def greatest_place(rule, lesser, things, total, number):
    """The number of the greatest part of the bag or choice of a number, found by halving.

    The things of its size are told as (size, how many).
    """
    k, many = things
    low = 0
    # Each further thing brings at least one bag; the first choice may need as many things as there are beads.
    high = min(many, number + total + 1)
    while high - low > 1:
        middle = (low + high) // 2
        if poured_before(rule, lesser, (k, middle), total) <= number:
            low = middle
        else:
            high = middle
    return low


def poured_number(rule, a, places):
    """The number of the bag or choice of these parts, the greatest first."""
    total = len(a) - 1
    number = 0
    for place in places:
        number += poured_before(rule, lesser_counts(rule, a, place[0]), place, total)
        total -= place[0]
    return number


def lesser_counts(rule, a, k):
    """The counts of bags or choices of the things of sizes less than k."""
    return many_counts(rule, a[:k] + [0] * (len(a) - k))


def poured_before(rule, lesser, first, total):
    """How many bags or choices of a size in all have only parts that go before the one of this size and number."""
    k, place = first
    return sum([ways_to_take(rule, place, many) * lesser[total - many * k] for many in range(total // k + 1)])


def ways_to_take(rule, things, many):
    """The ways to take so many of some things: twins are in no choice."""
    return chosen(things, many) if isinstance(rule, Choice) else chosen(things + many - 1, many)
