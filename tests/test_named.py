"""Named counts (30), and such of some thousand figures 0 to 9 (31)."""

import math
import unittest

from figurebook.errors import FigureError, NoClass, NoNames
from figurebook.lists import listed
from figurebook.named import named
from figurebook.owns import namings
from figurebook.tally import Tally
from tests.made import small_books, smallest_books
from tests.shapes import book_of
from tests.test_lists import ors

MOST = 400


class Checked(unittest.TestCase):

    def check(self, counts, rule, *rows):
        """The named counts of a class x of this rule beside further classes, from size 0 on."""
        book = book_of(f"x = {rule}", *rows)
        for size, count in list(enumerate(counts))[::-1] + list(enumerate(counts)):
            told = named(book, "x", size)
            self.assertEqual(told, count, (rule, size))
            self.assertIs(type(told), int)


class EachKind(Checked):

    def test_nothing_and_a_bead(self):
        self.check([1] + [0] * 20, "nothing")
        self.check([0, 1] + [0] * 19, "bead red")

    def test_or(self):
        self.check([1, 2, 0, 0], "nothing or bead red or bead red")
        self.check([2, 2, 4, 12], "row of bead red or row of bead blue")

    def test_by(self):
        self.check([0, 0, 2, 0], "bead red by bead red")
        self.check([0, 0, 0, 6, 0], "bead red by bead red by bead blue")
        self.check([0, 0, 8, 0], "( bead red or bead blue ) by ( bead red or bead blue )")
        self.check([0, 0, 2 * 1, 3 * 2, 4 * 6], "bead red by ( bead red by row of bead red )")

    def test_row_bag_ring(self):
        self.check([math.factorial(size) for size in range(21)], "row of bead red")
        self.check([1] * 21, "bag of bead red")
        self.check([0] + [math.factorial(size - 1) for size in range(1, 21)], "ring of bead red")
        two = "( bead red or bead blue )"
        self.check([2 ** size * math.factorial(size) for size in range(21)], f"row of {two}")
        self.check([2 ** size for size in range(21)], f"bag of {two}")
        self.check([0] + [2 ** size * math.factorial(size - 1) for size in range(1, 21)], f"ring of {two}")
        self.check([math.factorial(size) for size in range(21)], "bag of ring of bead red")
        self.check([1, 1, 3, 13, 73, 501, 4051, 37633, 394353], "bag of ( bead red by row of bead red )")

    def test_names(self):
        self.check([0, 1, 0], "a", "a = b", "b = bead red")
        self.check([1, 2, 2, 0], "a by b", "a = nothing or bead red", "b = a")

    def test_trees(self):
        self.check([0] + [size ** (size - 1) for size in range(1, 21)], "bead red by bag of x")
        self.check([1] + [size ** size for size in range(1, 21)], "bag of ring of tree", "tree = bead red by bag of tree")
        self.check([0] + [math.factorial(2 * n) // math.factorial(n) for n in range(20)], "bead red by row of x")

    def test_without_figures(self):
        self.check([0] * 21, "x by bead red")
        self.check([1] + [0] * 20, "row of a", "a = bead red by a")
        self.check([1] + [0] * 20, "bag of a", "a = bead red by a")
        self.check([0] * 21, "ring of a", "a = bead red by a")


class HollowParts(Checked):

    def test_both(self):
        self.check([1] + [0] * 5, "nothing by nothing")
        self.check([(size + 1) * math.factorial(size) for size in range(21)], "row of bead red by row of bead blue")
        self.check([2 ** size for size in range(21)], "bag of bead red by bag of bead blue")
        self.check([9, 6, 2, 0], "a by a", "a = nothing or nothing or bead red or nothing")

    def test_one(self):
        self.check([0] + list(range(1, 21)), "bead red by bag of bead red")
        self.check([0] + list(range(1, 21)), "bag of bead red by bead red")
        self.check([0, 2, 0], "( nothing or nothing ) by bead red")

    def test_none(self):
        self.check([0, 0, 2, 6, 22], "ring of bead red by ring of bead blue")


class SumOfNamings(unittest.TestCase):

    def check(self, books):
        for book, pairs, lists in books:
            told = [(name, rule.told()) for name, rule in pairs]
            for name in book.names():
                if book.choices(name):
                    continue
                for size, figures in enumerate(lists[name]):
                    total = sum(namings(figure) for figure in figures)
                    self.assertEqual(named(book, name, size), total, (told, name, size))

    def test_small_books(self):
        self.check(small_books())

    def test_all_smallest_books(self):
        self.check(smallest_books())

    def test_listed_figures_to_size_ten(self):
        checked = 0
        for book, _, lists in small_books():
            for name in book.names():
                for size in range(len(lists[name]), 11):
                    if not book.choices(name) and Tally(book).count(name, size) <= MOST:
                        checked += 1
                        total = sum(namings(figure) for figure in listed(book, name, size))
                        self.assertEqual(named(book, name, size), total, (name, size))
        self.assertGreater(checked, 100)


class Refusals(unittest.TestCase):

    def refused(self, kind, book, name, size):
        with self.assertRaises(FigureError) as caught:
            named(book, name, size)
        self.assertIs(type(caught.exception), kind)
        self.assertEqual(kind.__bases__, (FigureError,))
        return caught.exception

    def test_where_the_class_speaks_of_choices(self):
        book = book_of(
            "a = choice of bead red", "b = bead red by a", "c = row of d", "d = bead red or b by none", "e = bag of bead red",
            "f = e by e", "none = none by bead red", "g = g by bead red by choice of bead red",
        )
        for _ in range(2):
            for name in "abcdg":
                for size in (0, 1, 20):
                    self.refused(NoNames, book, name, size)
            self.assertEqual([named(book, "f", size) for size in range(4)], [1, 2, 4, 8])
            self.assertEqual([named(book, "e", size) for size in range(4)], [1, 1, 1, 1])
            self.assertEqual(named(book, "none", 3), 0)

    def test_no_class_ahead_of_it(self):
        book = book_of("a = choice of bead red")
        for name in ("b", "red", ""):
            self.assertEqual(self.refused(NoClass, book, name, 0).name, name)


class GreatCounts(unittest.TestCase):

    def test_some_thousand_figures(self):
        book = book_of(
            f"ten = {ors('nothing', 10)}", "c = " + " by ".join(["ten"] * 29), "d = " + " by ".join(["c"] * 6),
            "a = d by bead red", "r = row of a", "b = bag of a", "g = ring of a", "p = r by b",
        )
        things = 10 ** 174
        self.assertEqual(named(book, "r", 20), things ** 20 * math.factorial(20))
        self.assertEqual(named(book, "b", 20), things ** 20)
        self.assertEqual(named(book, "g", 20), things ** 20 * math.factorial(19))
        pairs = sum(math.comb(20, k) * math.factorial(k) for k in range(21))
        self.assertEqual(named(book, "p", 20), things ** 20 * pairs)

    def test_arguments_by_their_names(self):
        self.assertEqual(named(book=book_of("a = row of bead red"), name="a", size=5), 120)
