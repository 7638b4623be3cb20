"""Own ways (28) and namings (29)."""

import itertools
import math
import unittest

from figurebook.figures import plain
from figurebook.lists import listed
from figurebook.owns import namings, own
from figurebook.tally import Tally
from figurebook.writings import read_writing
from tests.made import small_books
from tests.shapes import book_of
from tests.written import (
    BLUE, MANY, NOTHING, RED, deep, led_to, parts_of, plain_told, size_told, small_writings, with_parts,
)


def leaves_of(writing):
    """What in a writing has no parts, in its order."""
    if not parts_of(writing):
        return [writing]
    return [leaf for part in parts_of(writing) for leaf in leaves_of(part)]


def with_leaves(writing, leaves):
    """The writing with other leaves, taken from a walk through them."""
    if not parts_of(writing):
        return next(leaves)
    return with_parts(writing, [with_leaves(part, leaves) for part in parts_of(writing)])


def named_apart(writing, beads_alone):
    """How many unlike plain figures come by giving all leaves, or all beads, unlike names."""
    leaves = leaves_of(writing)
    places = [place for place, leaf in enumerate(leaves) if leaf[0] == "bead" or not beads_alone]
    found = set()
    for names in itertools.permutations(range(len(places))):
        named = list(leaves)
        for place, name in zip(places, names):
            named[place] = ("bead", f"{leaves[place]}.{name}")
        found.add(plain_told(with_leaves(writing, iter(named))))
    return len(found)


def own_told(writing):
    """Own ways are what moves the leaves and leads to the same figure; so many namings of all leaves are alike."""
    return math.factorial(len(leaves_of(writing))) // named_apart(writing, beads_alone=False)


def beads_everywhere(writing):
    """Whether no part of a bag, choice or ring is without beads."""
    parts = parts_of(writing)
    poured = writing[0] in ("bag", "choice", "ring")
    return all(beads_everywhere(part) and (size_told(part) > 0 or not poured) for part in parts)


class Checked(unittest.TestCase):

    def check(self, ways, text):
        writing = read_writing(text)
        told = own(writing)
        self.assertEqual(told, ways, text)
        self.assertIs(type(told), int)


class OwnWays(Checked):

    def test_nothing_and_a_bead(self):
        self.check(1, "nothing")
        self.check(1, "red")

    def test_left_right_pair_and_row(self):
        self.check(1, "left red")
        self.check(2, "left { red red }")
        self.check(6, "right { red red red }")
        self.check(1, "( red red )")
        self.check(12, "( { red red } { blue blue blue } )")
        self.check(4, "( { red red } { red red } )")
        self.check(1, "[ ]")
        self.check(1, "[ red red red ]")
        self.check(8, "[ { red red } { red red } { red red } red ]")

    def test_bag_and_choice(self):
        for first, last in (("{", "}"), ("<", ">")):
            self.check(1, f"{first} {last}")
            self.check(1, f"{first} red {last}")
            self.check(1, f"{first} red blue {last}")
            self.check(2, f"{first} red red {last}")
            self.check(2, f"{first} red blue red {last}")
            self.check(6, f"{first} red red red {last}")
            self.check(12, f"{first} red blue red blue red {last}")
            self.check(4, f"{first} red blue red blue {last}")
            self.check(2, f"{first} nothing nothing {last}")
            self.check(8, f"{first} {{ red red }} {{ red red }} {last}")

    def test_twins_by_their_plain_figures(self):
        self.check(2, "{ { red blue } { blue red } }")
        self.check(2, "{ (( red blue blue )) (( blue red blue )) }")
        self.check(1, "{ [ red blue ] [ blue red ] }")
        self.check(6, "< (( red blue blue )) (( blue red blue )) (( blue blue red )) >")
        self.check(2 * 2 * 2, "{ { red red } { red red } }")
        self.check(2, "(( { red blue } { blue red } ))")
        self.check(2, "(( { red { blue red } } { { red blue } red } ))")

    def test_ring(self):
        self.check(1, "(( ))")
        self.check(1, "(( red ))")
        self.check(2, "(( red red ))")
        self.check(5, "(( red red red red red ))")
        self.check(1, "(( red blue ))")
        self.check(2, "(( red blue red blue ))")
        self.check(1, "(( red blue blue red ))")
        self.check(3, "(( red red blue red red blue red red blue ))")
        self.check(3, "(( red blue red red blue red red blue red ))")
        self.check(2 * 2 * 2, "(( { red red } { red red } ))")
        self.check(2 * 2, "(( { red red } { blue blue } ))")
        self.check(3, "(( nothing nothing nothing ))")
        self.check(2, "{ (( )) (( )) }")

    def test_within_one_another(self):
        self.check(math.factorial(3) * 2 ** 3 * 4, "( { (( red red )) (( red red )) (( red red )) } (( red red red red )) )")
        self.check(math.factorial(20), "{ " + "red " * 20 + "}")
        self.check(599, "(( " + "red " * 599 + "))")

    def test_all_small_writings(self):
        for writing in small_writings(4)[::2] + small_writings(5, ("red",))[::9] + small_writings(6, ("red",))[::599]:
            self.assertEqual(own(writing), own_told(writing), writing)

    def test_the_same_for_each_shaken_writing(self):
        for text in ("(( red { blue red red } red { red blue red } ))", "{ (( red blue )) < red { red blue } > (( blue red )) }",
                     "[ { red red blue } (( red blue red blue )) ]"):
            writing = read_writing(text)
            for other in led_to(writing):
                self.assertEqual(own(other), own(writing))
            self.assertEqual(own(plain(writing)), own(writing))

    def test_what_is_handed_in_stays(self):
        writing = read_writing("(( red { blue red red } ))")
        before = repr(writing)
        self.assertEqual(own(writing), own(writing))
        self.assertEqual(namings(writing), namings(writing))
        self.assertEqual(repr(writing), before)

    def test_many_within_one_another(self):
        self.assertEqual(own(deep(240, ("bag", "ring", "choice", "left", "pair"))), 1)
        for kind in MANY:
            self.assertEqual(own(deep(240, (kind,))), 1)
        twins = ("bag", (deep(230, ("ring", "bag")), deep(230, ("ring", "bag"))))
        self.assertEqual(own(("ring", (twins, twins))), 8)


class Namings(unittest.TestCase):

    def check(self, ways, text):
        writing = read_writing(text)
        self.assertEqual(namings(writing), ways, text)
        self.assertIs(type(namings(writing)), int)
        self.assertEqual(own(writing) * namings(writing), math.factorial(size_told(writing)))

    def test_some(self):
        self.check(1, "nothing")
        self.check(1, "red")
        self.check(2, "( red red )")
        self.check(1, "{ red red red }")
        self.check(3, "{ red blue red }")
        self.check(2, "(( red red red ))")
        self.check(6, "(( red red blue ))")
        self.check(24, "[ red red red red ]")
        self.check(3, "{ { red red } { red red } }")
        self.check(6, "[ nothing red ( nothing red ) red ]")
        self.check(1, "[ nothing { } (( )) ]")
        self.check(math.factorial(40) // 40, "(( " + "red " * 40 + "))")

    def test_all_ways_to_name_the_beads_gone_through(self):
        checked = 0
        for writing in small_writings(4) + small_writings(6, ("red",))[::29]:
            if beads_everywhere(writing):
                checked += 1
                self.assertEqual(namings(writing), named_apart(writing, beads_alone=True), writing)
        self.assertGreater(checked, 300)

    def test_figures_of_small_books(self):
        for book, _, lists in small_books():
            for name in book.names():
                for figures in lists[name][:6]:
                    for figure in figures[::1 + len(figures) // 2]:
                        self.assertEqual(namings(figure), named_apart(figure, beads_alone=True), figure)

    def test_own_times_namings_is_the_product_of_one_to_the_size(self):
        for book, _, lists in small_books():
            for name in book.names():
                for size, figures in enumerate(lists[name]):
                    for figure in figures:
                        self.assertEqual(own(figure) * namings(figure), math.factorial(size))
                        self.assertEqual(math.factorial(size) % own(figure), 0)

    def test_trees_named_apart(self):
        """Of the trees with named beads there are n ** (n - 1)."""
        book = book_of("tree = bead red by bag of tree")
        for size in range(1, 9):
            trees = listed(book, "tree", size)
            self.assertEqual(len(trees), Tally(book).count("tree", size))
            self.assertEqual(sum(namings(tree) for tree in trees), size ** (size - 1))

    def test_rings_named_apart(self):
        book = book_of("a = ring of bead red")
        for size in range(1, 8):
            self.assertEqual([namings(ring) for ring in listed(book, "a", size)], [math.factorial(size - 1)])

    def test_arguments_by_their_names(self):
        self.assertEqual((own(writing=RED), namings(writing=BLUE), own(writing=NOTHING)), (1, 1, 1))
