"""Counts of classes (23), counts of some thousand figures 0 to 9 (31), and what is told once and again (2)."""

import itertools
import math
import unittest

from figurebook.books import Book
from figurebook.errors import FigureError, NoClass
from figurebook.rules import Bead, By, Named, Row
from figurebook.tally import Tally
from tests.made import small_books, smallest_books
from tests.shapes import book_of, pairs_of

TREES = ("tree = bead red by bag of tree", "wood = choice of tree", "band = ring of tree", "x = x by bead red")


class Checked(unittest.TestCase):

    def check(self, counts, rule, *rows):
        """The counts of a class x of this rule beside further classes, from size 0 on, asked in several ways."""
        book = book_of(f"x = {rule}", *rows)
        top = len(counts) - 1
        self.assertEqual(Tally(book).upto("x", top), counts, rule)
        tally = Tally(book)
        for size in range(top, -1, -1):
            told = tally.count("x", size)
            self.assertIs(type(told), int)
            self.assertEqual(told, counts[size], (rule, size))
        self.assertEqual(tally.upto("x", top), counts)


class EachKind(Checked):

    def test_nothing_and_a_bead(self):
        self.check([1] + [0] * 40, "nothing")
        self.check([0, 1] + [0] * 39, "bead red")

    def test_or(self):
        self.check([1, 1, 0, 0], "nothing or bead red")
        self.check([0, 2, 0], "bead red or bead red")
        self.check([0, 3, 0], "bead red or bead blue or bead red")
        self.check([2, 0, 0], "nothing or nothing")

    def test_by(self):
        self.check([0, 0, 1, 0], "bead red by bead blue")
        self.check([0, 0, 4, 0], "( bead red or bead blue ) by ( bead red or bead blue )")
        self.check([0, 0, 0, 1], "bead red by bead red by bead red")
        self.check([0, 0, 0, 1, 1], "bead red by ( bead red by bead red or bead red by bead red by bead red )")

    def test_row_bag_choice_ring(self):
        two = "( bead red or bead blue )"
        self.check([1] * 41, "row of bead red")
        self.check([1] * 41, "bag of bead red")
        self.check([1, 1] + [0] * 39, "choice of bead red")
        self.check([0] + [1] * 40, "ring of bead red")
        self.check([2 ** size for size in range(41)], f"row of {two}")
        self.check(list(range(1, 42)), f"bag of {two}")
        self.check([1, 2, 1, 0, 0], f"choice of {two}")
        self.check([0, 2, 3, 4, 6, 8, 14, 20, 36, 60, 108, 188, 352, 632, 1182, 2192], f"ring of {two}")
        row = "( bead red by row of bead red )"
        self.check([1, 1, 2, 3, 5, 7, 11, 15, 22, 30, 42, 56, 77, 101, 135], f"bag of {row}")
        self.check([1, 1, 1, 2, 2, 3, 4, 5, 6, 8, 10, 12, 15, 18, 22], f"choice of {row}")
        self.assertEqual(Tally(book_of(f"x = bag of {row}")).count("x", 40), 37338)
        self.assertEqual(Tally(book_of(f"x = choice of {row}")).count("x", 40), 1113)

    def test_names(self):
        self.check([0, 1, 0], "a", "a = b", "b = c", "c = bead red")
        self.check([1, 2, 1, 0], "a by b", "a = nothing or bead red", "b = a")
        self.check([0, 2, 1, 1, 1], "a or b", "a = bead red", "b = ring of a")

    def test_trees(self):
        rooted = [0, 1, 1, 2, 4, 9, 20, 48, 115, 286, 719, 1842, 4766, 12486, 32973, 87811, 235381]
        self.check(rooted, "bead red by bag of x")
        self.check([0, 1, 1, 1, 2, 3, 6, 12, 25, 52, 113, 247, 548, 1226, 2770], "bead red by choice of x")
        self.check([0] + [math.comb(2 * n, n) // (n + 1) for n in range(40)], "bead red by row of x")
        self.check([0] + [math.comb(2 * n, n) // (n + 1) for n in range(40)], "bead red or x by x")
        self.check([1] + rooted[2:], "bag of a", "a = bead red by bag of a")


class HollowParts(Checked):

    def test_both(self):
        self.check([1] + [0] * 5, "nothing by nothing")
        self.check(list(range(1, 42)), "row of bead red by bag of bead blue")
        self.check([4, 0, 0], "( nothing or nothing ) by ( nothing or nothing )")
        self.check([9, 6, 1, 0], "a by a", "a = nothing or nothing or bead red or nothing")
        self.check([1, 3, 6, 10, 15], "a by a by a", "a = row of bead red")

    def test_one(self):
        self.check([0] + [1] * 40, "bead red by row of bead red")
        self.check([0] + [1] * 40, "row of bead red by bead red")
        self.check([0, 2, 0, 0], "bead red by ( nothing or nothing )")
        self.check([0, 2, 0, 0], "( nothing or nothing ) by bead red")
        self.check([0, 0, 1, 2, 3], "a by b by a by b", "a = row of bead red", "b = bead red")

    def test_none(self):
        self.check([0, 0, 1, 2, 3, 4], "ring of bead red by ring of bead blue")
        self.check([0, 0, 1, 1, 0], "bead red by ( bead red or bead red by bead red )")

    def test_a_class_that_the_same_size_asks_through_a_hollow_part(self):
        # Beside nothing the whole size is b's, and b leans on c, c on d.
        rows = ("b = c or bead red by x", "c = d by row of bead red", "d = bag of ( bead red by d )")
        for order in itertools.permutations(rows):
            self.check([1, 5, 13, 34, 85], "nothing by b by row of bead red or bead blue by nothing", *order)


class WithoutFigures(Checked):

    def test_none_of_each_size(self):
        self.check([0] * 41, "x by bead red")
        self.check([0] * 41, "bead red by x")
        self.check([0] * 41, "bead red by bag of x by x")
        self.check([0] * 41, "a", "a = bead red by b", "b = bead blue by a")

    def test_what_is_made_of_them(self):
        self.check([1] + [0] * 40, "row of a", "a = a by bead red")
        self.check([1] + [0] * 40, "bag of a", "a = a by bead red")
        self.check([1] + [0] * 40, "choice of a", "a = a by bead red")
        self.check([0] * 41, "ring of a", "a = a by bead red")
        self.check([0] * 41, "a by row of bead red", "a = a by bead red")
        self.check([0, 1, 0, 0], "a or bead red", "a = a by bead red")


class AllFiguresGoneThrough(unittest.TestCase):

    def check(self, books):
        for book, pairs, lists in books:
            told = [(name, rule.told()) for name, rule in pairs]
            tally = Tally(book)
            for name in book.names():
                counts = [len(figures) for figures in lists[name]]
                self.assertEqual(tally.upto(name, len(counts) - 1), counts, (told, name))
                for size, count in enumerate(counts):
                    self.assertEqual(Tally(book).count(name, size), count, (told, name))

    def test_small_books(self):
        self.check(small_books())

    def test_all_smallest_books(self):
        self.check(smallest_books())

    def test_the_order_of_the_classes_changes_no_count(self):
        rows = ("a = b or c", "b = c or d by e", "c = bag of d", "d = bead red or ring of bead red", "e = nothing or d")
        counts = [Tally(book_of(*rows)).upto(name, 20) for name in "abcde"]
        for order in itertools.permutations(rows):
            tally = Tally(book_of(*order))
            self.assertEqual([tally.upto(name, 20) for name in "abcde"], counts)


class ToldAgain(unittest.TestCase):

    def test_sizes_in_any_order_and_twice(self):
        book = book_of(*TREES)
        asked = [(name, size) for name in book.names() for size in range(41)]
        counts = {one: Tally(book).count(*one) for one in asked if one[1] % 8 == 0}
        tally = Tally(book)
        for step in (1, 7, 29, -1):
            for place in range(len(asked)):
                name, size = asked[place * step % len(asked)]
                self.assertEqual(tally.count(name, size), counts.setdefault((name, size), tally.count(name, size)))
        for name in book.names():
            self.assertEqual(Tally(book).upto(name, 40), [counts[(name, size)] for size in range(41)])

    def test_upto_is_the_list_of_the_counts(self):
        book = book_of(*TREES)
        tally = Tally(book)
        for name in book.names():
            for top in (40, 0, 1, 17, 40):
                self.assertIs(type(tally.upto(name, top)), list)
                self.assertEqual(tally.upto(name, top), [tally.count(name, size) for size in range(top + 1)])
                self.assertEqual(tally.upto(name, top), Tally(book).upto(name, top))

    def test_each_told_list_is_the_askers_own(self):
        tally = Tally(book_of(*TREES))
        for name, size in (("tree", 10), ("x", 5), ("band", 0)):
            told = tally.upto(name, size)
            before = list(told)
            again = tally.upto(name, size)
            told[0] = 77
            told.append(5)
            self.assertEqual(again, before)
            self.assertEqual(tally.upto(name, size), before)
            self.assertEqual([tally.count(name, k) for k in range(size + 1)], before)
            again.clear()
            self.assertEqual(tally.upto(name, size), before)

    def test_the_pairs_changed_behind_the_book(self):
        pairs = pairs_of(*TREES)
        book = Book(pairs)
        tally = Tally(book)
        pairs[0] = ("tree", Bead("red"))
        pairs.pop()
        self.assertEqual(tally.upto("tree", 5), [0, 1, 1, 2, 4, 9])
        self.assertEqual(tally.count("x", 3), 0)

    def test_the_book_stays(self):
        book = book_of(*TREES)
        before = [(name, book.rule(name), book.rule(name).told(), book.least(name)) for name in book.names()]
        Tally(book).upto("band", 12)
        after = [(name, book.rule(name), book.rule(name).told(), book.least(name)) for name in book.names()]
        self.assertEqual(after, before)

    def test_one_rule_at_several_places(self):
        red = Bead("red")
        row = Row(red)
        both = By(row, row)
        book = Book([("a", both), ("b", By(both, red)), ("c", row), ("d", Named("a"))])
        other = Book([("a", Bead("red")), ("d", book.rule("d"))])
        tally = Tally(book)
        self.assertEqual([tally.upto(name, 4) for name in "abcd"],
                         [[1, 2, 3, 4, 5], [0, 1, 2, 3, 4], [1, 1, 1, 1, 1], [1, 2, 3, 4, 5]])
        self.assertEqual(Tally(other).upto("d", 4), [0, 1, 0, 0, 0])


class NoSuchClass(unittest.TestCase):

    def test_of_both_with_the_name_asked(self):
        tally = Tally(book_of(*TREES))
        for name in ("trees", "y", "red", "bead", ""):
            for asked in (lambda: tally.count(name, 3), lambda: tally.upto(name, 3)):
                for _ in range(2):
                    with self.assertRaises(NoClass) as caught:
                        asked()
                    self.assertEqual(caught.exception.name, name)
                    self.assertEqual(type(caught.exception).__bases__, (FigureError,))
        self.assertEqual(tally.count("tree", 3), 2)

    def test_a_name_of_another_book(self):
        one, other = Tally(book_of("a = bead red")), Tally(book_of("b = bead red"))
        self.assertEqual((one.count("a", 1), other.count("b", 1)), (1, 1))
        with self.assertRaises(NoClass):
            one.count("b", 1)
        with self.assertRaises(NoClass):
            other.upto("a", 1)


class GreatCounts(unittest.TestCase):

    def great_book(self, *rows):
        ten, thirty = " or ".join(["nothing"] * 10), 30
        return book_of(f"ten = {ten}", "c = " + " by ".join(["ten"] * thirty), "d = " + " by ".join(["c"] * 29), *rows)

    def test_some_thousand_figures(self):
        tally = Tally(self.great_book("e = d by d by d by d", "f = e by ( bead red by row of bead red )"))
        self.assertEqual(tally.upto("e", 40), [10 ** 3480] + [0] * 40)
        self.assertEqual(tally.upto("f", 40), [0] + [10 ** 3480] * 40)

    def test_rows_bags_choices_and_rings_of_many_things(self):
        rows = ("a = d by bead red", "r = row of a", "b = bag of a", "s = choice of a", "g = ring of a")
        tally = Tally(self.great_book(*rows))
        things = 10 ** 870
        for size in range(1, 5):
            self.assertEqual(tally.count("r", size), things ** size)
            self.assertEqual(tally.count("b", size), math.comb(things + size - 1, size))
            self.assertEqual(tally.count("s", size), math.comb(things, size))
        self.assertEqual(tally.count("g", 4), (things ** 4 + things ** 2 + 2 * things) // 4)
        self.assertEqual(tally.count("g", 3), (things ** 3 + 2 * things) // 3)

    def test_of_size_forty(self):
        ten = " or ".join(["nothing"] * 10)
        tally = Tally(book_of(
            f"ten = {ten}", "c = " + " by ".join(["ten"] * 29), "a = c by c by c by ( bead red or bead blue )",
            "r = row of a", "b = bag of a", "s = choice of a", "g = ring of a",
        ))
        things = 2 * 10 ** 87
        self.assertEqual(tally.count("r", 40), things ** 40)
        self.assertEqual(tally.count("b", 40), math.comb(things + 39, 40))
        self.assertEqual(tally.count("s", 40), math.comb(things, 40))
        turns = sum(things ** math.gcd(turn, 40) for turn in range(1, 41))
        self.assertEqual(tally.count("g", 40), turns // 40)

    def test_beside_counts_beyond_all_bounds(self):
        chain = [f"{name} = " + " by ".join([before] * 30) for before, name in itertools.pairwise("defgh")]
        book = self.great_book(*chain, "y = h by bead red")
        tally = Tally(book)
        self.assertEqual(tally.count("y", 0), 0)
        self.assertEqual(tally.count("c", 0), 10 ** 30)
        self.assertEqual(tally.upto("c", 3), [10 ** 30, 0, 0, 0])
        self.assertEqual(tally.upto("d", 3), [10 ** 870, 0, 0, 0])
