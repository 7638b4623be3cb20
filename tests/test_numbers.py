"""The figure of a number (25, 27), the number of a figure (26, 27), and both for great counts (31)."""

import unittest

from figurebook.errors import FigureError, NoClass, NoFit, NoSuch, TooMany
from figurebook.figures import is_plain, key_of, plain, size_of
from figurebook.fits import at_fault
from figurebook.numbers import figure_of, number_of
from figurebook.tally import Tally
from figurebook.writings import read_writing
from tests.made import small_books, smallest_books
from tests.shapes import book_of
from tests.test_lists import MOST, nested, ors
from tests.written import BLUE, NOTHING, RED, deep, led_to

TREES = ("tree = bead red by bag of tree", "wood = bag of tree", "mob = choice of tree", "band = ring of tree")
# Classes without rings of some thousand millions of figures and more: bags, choices, rows, pairs within one another.
GREAT_BOOKS = (
    ("a = row of ( bead red or bead blue or bead green or bead grey or bead black or bead white )",
     "b = bag of ( bead red by a )", "c = choice of ( bead red by a )", "d = a by b by c", "e = row of ( bead red by d )"),
    ("a = bead red by row of ( a or b or c )", "b = bead blue by bag of ( a or c or bead red )",
     "c = bead green by choice of ( a or b or bead blue ) by bag of a", "d = a or b by c or c", "e = bag of c by choice of b"),
    ("a = bead red or bead blue or a by a or a by a by a", "b = choice of a", "c = bag of ( bead red by b by b )",
     "d = row of ( bead red by c )", "e = nothing or d by bag of ( a or bead red by b )"),
    (f"a = {ors('bead red', 29)}", f"b = {ors('a', 29)}", "c = bag of b", "d = choice of b", "e = c by d by row of b"),
)


def great_book():
    """A class d of 10 ** 261 figures of size 1 each, and bags, choices and rows of them."""
    return book_of(
        f"ten = {ors('nothing', 10)}", "c = " + " by ".join(["ten"] * 29), "d = " + " by ".join(["c"] * 9) + " by bead red",
        "b = bag of d", "s = choice of d", "r = row of d", "all = b by s by r", "deep = bag of ( d or d by s )",
    )


class Checked(unittest.TestCase):

    def check(self, book, name, size, number, figure):
        told = figure_of(book, name, size, number)
        self.assertEqual(told, figure, (name, size, number))
        self.assertIs(type(told), tuple)
        again = number_of(book, name, figure)
        self.assertEqual(again, number, (name, figure))
        self.assertIs(type(again), int)

    def refused(self, kind, deed):
        with self.assertRaises(FigureError) as caught:
            deed()
        self.assertIs(type(caught.exception), kind)
        self.assertEqual(kind.__bases__, (FigureError,))
        return caught.exception


class AgainstLists(Checked):

    def check_books(self, books):
        for book, _, lists in books:
            for name in book.names():
                for size, figures in enumerate(lists[name]):
                    if len(figures) > MOST and book.rings(name):
                        continue
                    numbers = list(range(len(figures)))
                    # In one order, then the other way, so that nothing hangs on what was asked ahead.
                    for number in numbers[::2] + numbers[::-2]:
                        self.check(book, name, size, number, figures[number])
                    for number in (-1, len(figures)):
                        self.refused(NoSuch, lambda: figure_of(book, name, size, number))

    def test_small_books(self):
        self.check_books(small_books())

    def test_smallest_books(self):
        self.check_books(smallest_books()[::3])


class Shaken(Checked):

    def check_shaken(self, book, name, figure, number):
        for writing in led_to(figure):
            before = repr(writing)
            self.assertEqual(number_of(book, name, writing), number, writing)
            self.assertEqual(repr(writing), before)

    def test_bags_poured_and_rings_begun_otherwise(self):
        book = book_of(
            "a = ring of ( bead red or bag of b by bead blue )", "b = bead red or bead blue by bead red",
            "c = choice of ( bead red or bead blue by c )", "d = bag of ( bead red or bead blue by d )",
        )
        for name in "abcd":
            for size in range(6):
                count = Tally(book).count(name, size)
                for number in range(0, count, 1 + count // 9):
                    self.check_shaken(book, name, figure_of(book, name, size, number), number)

    def test_trees(self):
        book = book_of(*TREES)
        for name in book.names():
            for size in range(7):
                count = Tally(book).count(name, size)
                for number in range(0, count, 1 + count // 5):
                    self.check_shaken(book, name, figure_of(book, name, size, number), number)


class NoNumber(Checked):

    def test_below_nought_and_beyond_the_count(self):
        book = book_of(*TREES, "none = none by bead red", "n = nothing")
        for name, size in (("tree", 5), ("tree", 14), ("wood", 0), ("mob", 3), ("band", 4), ("none", 2), ("n", 0), ("n", 1)):
            count = Tally(book).count(name, size)
            for number in (-1, -2, -count, -count - 1, count, count + 1, 2 * count, 10 ** 20, -10 ** 20,
                           10 ** 400 - 1, -10 ** 400 + 1):
                if not 0 <= number < count:
                    self.refused(NoSuch, lambda: figure_of(book, name, size, number))
            if count:
                self.assertEqual(size_of(figure_of(book, name, size, count - 1)), size)

    def test_great_counts(self):
        book = great_book()
        for name in ("b", "s", "r"):
            count = Tally(book).count(name, 1)
            self.assertEqual(count, 10 ** 261)
            for number in (-1, count, count + 1, 10 ** 399, -count):
                self.refused(NoSuch, lambda: figure_of(book, name, 1, number))
            self.assertEqual(number_of(book, name, figure_of(book, name, 1, count - 1)), count - 1)


class TooManyRings(Checked):

    def book(self, more):
        """Of size 2 the class x has 399 figures and so many more, and one of them a ring; y and z speak of x's ring."""
        return book_of(
            f"b = {ors('bead red', 19)}", f"c = {ors('bead red', 21)}", f"x = b by c or {ors('ring of bead red', more)}",
            "y = x", "z = y or none by ring of bead red", "none = none by bead red", "w = b by c or b by c",
        )

    def test_above_four_hundred_whatever_the_number(self):
        book = self.book(2)
        self.assertEqual(Tally(book).count("x", 2), 401)
        ring = ("right", ("ring", (RED, RED)))
        for name, writing in (("x", ring), ("y", ring), ("z", ("left", ring))):
            for number in (0, 5, 400, 401, -1, 10 ** 399):
                self.refused(TooMany, lambda: figure_of(book, name, 2, number))
            self.assertEqual(at_fault(book, name, writing), None)
            self.refused(TooMany, lambda: number_of(book, name, writing))
            self.assertEqual(number_of(book, name, figure_of(book, name, 1, 0)), 0)

    def test_not_at_four_hundred(self):
        book = self.book(1)
        for name in "xyz":
            self.assertEqual(Tally(book).count(name, 2), 400)
            for number in (0, 17, 398, 399):
                self.check(book, name, 2, number, figure_of(book, name, 2, number))
            for number in (-1, 400):
                self.refused(NoSuch, lambda: figure_of(book, name, 2, number))
        self.assertEqual(figure_of(book, "x", 2, 399), ("right", ("ring", (RED, RED))))

    def test_a_ring_that_no_figure_has(self):
        book = book_of(f"b = {ors('bead red', 21)}", "x = b by b or none by ring of bead red", "none = none by bead red")
        self.assertTrue(book.rings("x"))
        self.refused(TooMany, lambda: figure_of(book, "x", 2, 0))

    def test_not_for_a_class_without_rings(self):
        book = self.book(2)
        self.assertEqual(Tally(book).count("w", 2), 798)
        for number in (0, 398, 399, 797):
            self.check(book, "w", 2, number, figure_of(book, "w", 2, number))
        self.refused(NoSuch, lambda: figure_of(book, "w", 2, 798))

    def test_sizes_up_to_fourteen(self):
        book = book_of("a = ring of ( bead red by bead red by bead red or bead blue by bead blue )", "b = ring of bead red")
        for size in range(15):
            for name in "ab":
                count = Tally(book).count(name, size)
                figures = [figure_of(book, name, size, number) for number in range(count)]
                keys = [key_of(figure) for figure in figures]
                self.assertEqual(keys, sorted(keys))
                self.assertEqual([number_of(book, name, figure) for figure in figures], list(range(count)))


class NotFitting(Checked):

    def check_path(self, path, book, name, text):
        refusal = self.refused(NoFit, lambda: number_of(book, name, read_writing(text)))
        self.assertEqual(refusal.path, path)
        self.assertIs(type(refusal.path), tuple)

    def test_the_path_of_the_part_at_fault(self):
        book = book_of(*TREES)
        self.check_path((), book, "tree", "red")
        self.check_path((0,), book, "tree", "( blue { } )")
        self.check_path((1, 1, 0), book, "tree", "( red { ( red { } ) ( blue { } ) } )")
        self.check_path((), book, "mob", "< ( red { } ) ( red { } ) >")
        self.check_path((), book, "band", "(( ))")
        self.check_path((0, 1), book, "band", "(( ( red [ ] ) ))")
        for writing in ("( red { ( blue { } ) } )", "nothing", "[ ]"):
            path = at_fault(book, "tree", read_writing(writing))
            self.check_path(path, book, "tree", writing)

    def test_ahead_of_too_many(self):
        book = book_of("x = ring of ( bead red or bead blue or bead green )")
        self.assertGreater(Tally(book).count("x", 9), 400)
        right = " ".join(["left left red"] * 9)
        self.refused(TooMany, lambda: number_of(book, "x", read_writing(f"(( {right} ))")))
        self.check_path((8,), book, "x", f"(( {' '.join(['left left red'] * 8)} red ))")

    def test_asked_again(self):
        book = book_of(*TREES)
        for _ in range(2):
            self.check_path((0,), book, "tree", "( blue { } )")
            self.assertEqual(number_of(book, "tree", read_writing("( red { } )")), 0)


class NoClassAtAll(Checked):

    def test_ahead_of_all(self):
        book = book_of(*TREES)
        for name in ("trees", "red", ""):
            for size, number in ((0, 0), (5, -1), (14, 10 ** 399)):
                self.assertEqual(self.refused(NoClass, lambda: figure_of(book, name, size, number)).name, name)
            for writing in (RED, NOTHING, ("ring", ()), ("pair", RED, ("bag", ()))):
                self.assertEqual(self.refused(NoClass, lambda: number_of(book, name, writing)).name, name)


class GreatCounts(Checked):

    def some_numbers(self, count):
        found = {0, 1, 2, count // 7, count // 3, count // 2, count // 2 + 1, count - count // 5, count - 2, count - 1}
        return sorted(number for number in found if 0 <= number < count)

    def check_numbers(self, book, name, size):
        last = None
        for number in self.some_numbers(Tally(book).count(name, size)):
            figure = figure_of(book, name, size, number)
            self.assertTrue(is_plain(figure))
            self.assertEqual(size_of(figure), size)
            self.assertIsNone(at_fault(book, name, figure))
            self.assertEqual(number_of(book, name, figure), number)
            key = key_of(figure)
            self.assertTrue(last is None or last < key, (name, size, number))
            last = key

    def test_thousands_of_millions(self):
        greatest = []
        for rows in GREAT_BOOKS:
            book = book_of(*rows)
            for name in book.names():
                self.assertFalse(book.rings(name))
                for size in (0, 1, 2, 5, 9, 12, 13, 14):
                    self.check_numbers(book, name, size)
                greatest.append(Tally(book).count(name, 14))
        self.assertGreater(len([count for count in greatest if count > 10 ** 9]), 15)

    def test_numbers_of_some_hundred_figures(self):
        book = great_book()
        for name, size in (("b", 1), ("s", 2), ("r", 2), ("deep", 3)):
            self.check_numbers(book, name, size)
        for name in ("all", "deep"):
            number = Tally(book).count(name, 14) // 3
            self.assertEqual(number_of(book, name, figure_of(book, name, 14, number)), number)
        for number in (10 ** 399, 10 ** 400 - 1, 7 ** 470):
            for name in ("b", "s", "r"):
                self.assertEqual(number_of(book, name, figure_of(book, name, 2, number)), number)

    def test_numbers_beside_one_another_rise(self):
        book = book_of(*GREAT_BOOKS[1])
        for name, size in (("a", 12), ("b", 13), ("c", 14), ("e", 11)):
            start = Tally(book).count(name, size) // 3
            keys = [key_of(figure_of(book, name, size, start + k)) for k in range(60)]
            self.assertTrue(all(one < other for one, other in zip(keys, keys[1:])))

    def test_a_part_with_more_figures_than_the_number_has(self):
        """The first figures, of parts with counts of some thousand figures 0 to 9, and all that stands in them."""
        book = book_of(
            f"ten = {ors('nothing', 10)}", "c = " + " by ".join(["ten"] * 29), "d = " + " by ".join(["c"] * 29),
            "p = d by d by d by d by bead red", "b = bag of p", "s = choice of p", "r = row of p",
        )
        for name in "bsr":
            self.assertEqual(len(str(Tally(book).count(name, 1))), 3365)
            for number in (1, 10 ** 399):
                self.assertEqual(number_of(book, name, figure_of(book, name, 1, number)), number)

    def test_many_within_one_another(self):
        rows = [f"{a} = " + "( " * 10 + b + " or nothing )" * 10 for a, b in zip("abcdefg", "bcdefgh")]
        book = book_of(*rows, "h = bead red or bead red by bag of ( bead blue by a )")
        for size in (0, 1, 2, 4):
            self.check_numbers(book, "a", size)
        figure = deep(1 + 70, ("left",), ("left", RED))
        self.assertEqual(figure_of(book, "a", 1, 0), figure)
        self.assertEqual(number_of(book, "a", figure), 0)
        bags = [f"{a} = " + "bag of ( bead red by " * 2 + b + " )" * 2 for a, b in zip("abcdefg", "bcdefgh")]
        self.check_numbers(book_of(*bags, "h = row of bead blue"), "a", 14)
        self.check_numbers(book_of(*bags, "h = row of ( bead blue or bead red )"), "a", 14)

    def test_rings_within_one_another(self):
        rings = [f"{a} = " + nested("ring", 28, b) for a, b in zip("abcdefg", "bcdefgh")]
        book = book_of(*rings, "h = " + nested("ring", 28, "bead red"))
        self.check(book, "a", 1, 0, deep(1 + 8 * 28, ("ring",)))
        for number in (0, 1, 111, 223):
            self.assertEqual(number_of(book, "a", figure_of(book, "a", 2, number)), number)

    def test_what_is_handed_in_stays(self):
        book = book_of(*TREES)
        writing = read_writing("( red { ( red { } ) ( red { ( red { } ) } ) } )")
        before = repr(writing)
        self.assertFalse(is_plain(writing))
        number = number_of(book, "tree", writing)
        self.assertEqual(repr(writing), before)
        self.assertEqual(figure_of(book, "tree", 4, number), plain(writing))
        self.assertEqual(book.names(), ["tree", "wood", "mob", "band"])


class ArgumentsByTheirNames(unittest.TestCase):

    def test_both(self):
        book = book_of("x = bead red or bead blue")
        self.assertEqual(figure_of(book=book, name="x", size=1, number=1), ("right", BLUE))
        self.assertEqual(number_of(book=book, name="x", writing=("right", BLUE)), 1)
