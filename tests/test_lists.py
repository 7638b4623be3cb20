"""The list of a class and a size (24)."""

import unittest

from figurebook.errors import FigureError, NoClass, TooMany
from figurebook.figures import is_plain, key_of, size_of
from figurebook.fits import at_fault
from figurebook.lists import listed
from figurebook.tally import Tally
from figurebook.writings import figure_text
from tests.made import small_books, smallest_books
from tests.shapes import book_of
from tests.written import BLUE, NOTHING, RED, plain_told

MOST = 400


def ors(rule, many):
    return " or ".join([rule] * many)


def nested(word, many, inmost):
    return f"{word} of " * many + inmost


class Checked(unittest.TestCase):

    def check(self, texts, rule, size, *rows):
        """The texts of the figures of a class x of this rule beside further classes."""
        book = book_of(f"x = {rule}", *rows)
        told = listed(book, "x", size)
        self.assertIs(type(told), list)
        self.assertEqual([figure_text(figure) for figure in told], texts, (rule, size))

    def check_list(self, book, name, size):
        """All that the document says of a list, but that nothing is left out."""
        told = listed(book, name, size)
        self.assertEqual(len(told), Tally(book).count(name, size))
        keys = [key_of(figure) for figure in told]
        self.assertTrue(all(one < other for one, other in zip(keys, keys[1:])), (name, size))
        for figure in told:
            self.assertTrue(is_plain(figure))
            self.assertEqual(size_of(figure), size)
            self.assertIsNone(at_fault(book, name, figure))
        return told


class EachKind(Checked):

    def test_nothing_and_a_bead(self):
        self.check(["nothing"], "nothing", 0)
        self.check([], "nothing", 1)
        self.check([], "bead red", 0)
        self.check(["red"], "bead red", 1)
        self.check([], "bead red", 2)

    def test_or(self):
        self.check(["left red", "right blue"], "bead red or bead blue", 1)
        self.check(["left red", "right red"], "bead red or bead red", 1)
        self.check(["left left red", "left right blue", "right blue"], "bead red or bead blue or bead blue", 1)
        self.check(["right nothing"], "bead red or nothing", 0)

    def test_by(self):
        two = "( bead red or bead blue )"
        self.check(["( left red left red )", "( left red right blue )", "( right blue left red )",
                    "( right blue right blue )"], f"{two} by {two}", 2)
        self.check(["( { } [ red red ] )", "( { blue } [ red ] )", "( { blue blue } [ ] )"],
                   "bag of bead blue by row of bead red", 2)
        self.check(["( nothing nothing )"], "nothing by nothing", 0)
        self.check(["( blue [ red ] )"], "bead blue by row of bead red", 2)
        self.check(["( [ red ] blue )"], "row of bead red by bead blue", 2)

    def test_row(self):
        two = "( bead red or bead blue by bead blue )"
        self.check(["[ ]"], f"row of {two}", 0)
        self.check(["[ left red ]"], f"row of {two}", 1)
        self.check(["[ left red left red left red ]", "[ left red right ( blue blue ) ]",
                    "[ right ( blue blue ) left red ]"], f"row of {two}", 3)

    def test_bag(self):
        two = "( bead red or bead blue )"
        self.check(["{ }"], f"bag of {two}", 0)
        self.check(["{ left red left red }", "{ right blue left red }", "{ right blue right blue }"], f"bag of {two}", 2)
        three = "( bead red or bead red by bead red )"
        self.check(["{ left red left red left red }", "{ right ( red red ) left red }"], f"bag of {three}", 3)

    def test_choice(self):
        two = "( bead red or bead blue )"
        self.check(["< >"], f"choice of {two}", 0)
        self.check(["< left red >", "< right blue >"], f"choice of {two}", 1)
        self.check(["< right blue left red >"], f"choice of {two}", 2)
        self.check([], f"choice of {two}", 3)

    def test_ring(self):
        two = "( bead red or bead blue )"
        self.check([], f"ring of {two}", 0)
        self.check(["(( left red ))", "(( right blue ))"], f"ring of {two}", 1)
        self.check(["(( left red left red left red ))", "(( left red left red right blue ))",
                    "(( left red right blue right blue ))", "(( right blue right blue right blue ))"], f"ring of {two}", 3)
        self.check(["(( (( red )) (( red )) ))", "(( (( red red )) ))"], "ring of ring of bead red", 2)

    def test_names_leave_no_mark(self):
        self.check(["red"], "a", 1, "a = b", "b = bead red")
        self.check(["( red { ( red { ( red { } ) } ) } )", "( red { ( red { } ) ( red { } ) } )"][::-1],
                   "bead red by bag of x", 3)

    def test_none(self):
        for size in range(11):
            self.check([], "x by bead red", size)
            self.check([], "ring of a", size, "a = a by bead red")
        self.check(["[ ]"], "row of a", 0, "a = a by bead red")
        self.check([], "row of a", 1, "a = a by bead red")


class AllFiguresGoneThrough(Checked):

    def check_books(self, books):
        for book, pairs, lists in books:
            told = [(name, rule.told()) for name, rule in pairs]
            for name in book.names():
                for size, figures in enumerate(lists[name]):
                    if len(figures) > MOST:
                        with self.assertRaises(TooMany):
                            listed(book, name, size)
                    else:
                        self.assertEqual(listed(book, name, size), figures, (told, name, size))

    def test_small_books(self):
        self.check_books(small_books())

    def test_all_smallest_books(self):
        self.check_books(smallest_books())


class GreaterSizes(Checked):

    def test_to_size_ten(self):
        refused = 0
        for book, pairs, lists in small_books():
            for name in book.names():
                for size in range(len(lists[name]), 11):
                    if Tally(book).count(name, size) <= MOST:
                        self.check_list(book, name, size)
                    else:
                        refused += 1
                        with self.assertRaises(TooMany):
                            listed(book, name, size)
        self.assertGreater(refused, 10)

    def test_each_its_own_plain_figure(self):
        book = book_of("a = ring of ( bead red or bag of b by bead red )", "b = bead blue or ring of b by bead red")
        for size in range(6):
            for figure in self.check_list(book, "a", size):
                self.assertEqual(plain_told(figure), figure)

    def test_many_within_one_another(self):
        rings = [f"{a} = " + nested("ring", 28, b) for a, b in zip("abcdefg", "bcdefgh")]
        book = book_of(*rings, "h = " + nested("ring", 28, "bead red"))
        self.assertEqual(len(self.check_list(book, "a", 1)), 1)
        self.assertEqual(len(self.check_list(book, "a", 2)), 8 * 28)
        lefts = [f"{a} = " + "( " * 27 + b + " or nothing )" * 27 for a, b in zip("abcdefg", "bcdefgh")]
        book = book_of(*lefts, "h = bead red")
        self.assertEqual(len(self.check_list(book, "a", 0)), 7 * 27)
        self.assertEqual(len(self.check_list(book, "a", 1)), 1)
        bags = [f"{a} = bead red by bag of ( bead blue by bag of ( bead red by bag of {b} ) )" for a, b in
                zip("abcdefg", "bcdefgh")]
        book = book_of(*bags, "h = bead red")
        for size in range(10):
            self.check_list(book, "a", size)


class Bounds(Checked):

    def check_bound(self, least, rule, size, *rows):
        """Not refused at four hundred, refused with one more."""
        count = Tally(book_of(f"x = {rule}", *rows)).count("x", size)
        self.assertEqual(count, least)
        for more in (MOST - least, MOST - least + 1):
            one = "by bead red " * (size - 1)
            book = book_of(f"x = {rule} or {' or '.join(['y'] * more)}", f"y = bead red {one}".strip(), *rows)
            self.assertEqual(Tally(book).count("x", size), least + more)
            if least + more == MOST:
                self.assertEqual(len(self.check_list(book, "x", size)), MOST)
            else:
                with self.assertRaises(TooMany):
                    listed(book, "x", size)

    def test_at_four_hundred_and_above(self):
        twenty = f"a = {ors('bead red', 20)}"
        self.check_bound(399, "b by c", 2, f"b = {ors('bead red', 19)}", f"c = {ors('bead red', 21)}")
        self.check_bound(380, "a by b", 2, twenty, f"b = {ors('bead red', 19)}")
        self.check_bound(378, "bag of a", 2, f"a = {ors('bead red', 27)}")
        self.check_bound(378, "choice of a", 2, f"a = {ors('bead red', 28)}")
        self.check_bound(378, "ring of a", 2, f"a = {ors('bead red', 27)}")
        self.check_bound(361, "row of a", 2, f"a = {ors('bead red', 19)}")

    def test_far_above(self):
        book = book_of("tree = bead red by bag of tree", "all = row of ( tree or bead blue or bead green )")
        self.assertEqual(Tally(book).count("tree", 10), 719)
        for name in ("tree", "all"):
            with self.assertRaises(TooMany) as caught:
                listed(book, name, 10)
            self.assertEqual(type(caught.exception).__bases__, (FigureError,))
        self.assertEqual(len(listed(book, "tree", 9)), 286)

    def test_parts_without_end_that_no_figure_has(self):
        """Here a size of a part has counts beyond all lists, but no figure of the asked size has such a part."""
        great = (f"ten = {ors('nothing', 10)}", "c = " + " by ".join(["ten"] * 29),
                 "p = bead red or c by bead red by bead red by bead red")
        for word, size, count in (("choice", 2, 0), ("choice", 5, 0), ("choice", 1, 1), ("ring", 2, 1), ("row", 2, 1),
                                  ("bag", 2, 1)):
            book = book_of(*great, f"x = {word} of p")
            self.assertEqual(len(self.check_list(book, "x", size)), count, word)
        odd = "q = bead red by bead red or c by bead red by bead red by bead red"
        for word in ("row", "bag", "ring"):
            book = book_of(*great, odd, f"x = {word} of q")
            self.assertEqual(len(self.check_list(book, "x", 4)), 1)
            with self.assertRaises(TooMany):
                listed(book, "x", 5)
        book = book_of(*great, "x = p by p", "none = none by bead red", "y = p by none or p by bead red",
                       "z = none by p or bead red by p")
        self.assertEqual(len(self.check_list(book, "x", 2)), 1)
        self.assertEqual(len(self.check_list(book, "z", 2)), 1)
        self.assertEqual(len(self.check_list(book, "z", 5)), 0)
        self.assertEqual(len(self.check_list(book, "y", 2)), 1)
        self.assertEqual(len(self.check_list(book, "y", 3)), 0)
        self.assertEqual(len(self.check_list(book, "y", 5)), 0)
        self.assertEqual(len(self.check_list(book, "x", 3)), 0)
        with self.assertRaises(TooMany):
            listed(book, "y", 4)

    def test_bags_begun_that_nothing_fills_up(self):
        """Of the parts of size 3 there are many, and one of size 1: 3, 3, 3 and 1 come to 10, and 1 to 11 no more."""
        rows = (f"m = {ors('bead red', 20)}", "p = bead red or m by bead red by bead red or e",
                "e = " + " by ".join(["bead blue"] * 8))
        book = book_of(*rows, "x = choice of p")
        # Three of size 3 and twice the one of size 1 would be 11; only 8 and 3 are.
        self.assertEqual(len(self.check_list(book, "x", 11)), 20)


class Refusals(unittest.TestCase):

    def test_no_class(self):
        book = book_of("a = row of ( bead red or bead blue )")
        for name in ("b", "red", ""):
            for size in (0, 5, 10):
                with self.assertRaises(NoClass) as caught:
                    listed(book, name, size)
                self.assertEqual(caught.exception.name, name)
        with self.assertRaises(TooMany) as caught:
            listed(book, "a", 10)
        self.assertNotIsInstance(caught.exception, NoClass)

    def test_asked_again(self):
        book = book_of("a = row of ( bead red or bead blue )")
        for _ in range(2):
            with self.assertRaises(TooMany):
                listed(book, "a", 9)
            self.assertEqual(len(listed(book, "a", 8)), 256)


class OwnLists(unittest.TestCase):

    def test_the_told_list_is_the_askers_own(self):
        book = book_of("a = b", "b = bead red or bead blue", "c = row of b", "n = nothing", "o = o by bead red")
        expected = {
            ("a", 1): [("left", RED), ("right", BLUE)], ("b", 1): [("left", RED), ("right", BLUE)],
            ("c", 0): [("row", ())], ("n", 0): [NOTHING], ("o", 3): [],
        }
        for (name, size), figures in expected.items():
            told, again = listed(book, name, size), listed(book, name, size)
            told.append(5)
            told.insert(0, 7)
            self.assertEqual(again, figures)
            self.assertEqual(listed(book, name, size), figures)

    def test_figures_are_tuples_of_tuples(self):
        book = book_of("x = choice of ( bead red or ring of ( bead red by row of bead blue ) )")

        def check(figure):
            self.assertIs(type(figure), tuple)
            for part in figure:
                if not isinstance(part, str):
                    check(part)

        for figure in listed(book, "x", 5):
            check(figure)
