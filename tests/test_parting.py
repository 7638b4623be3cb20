"""Two classes held against each other (34)."""

import itertools
import unittest

from figurebook.errors import FigureError, NoClass
from figurebook.parting import parted
from figurebook.tally import Tally
from tests.made import small_books
from tests.shapes import book_of
from tests.test_lists import ors

BOOK = (
    "tree = bead red by bag of tree", "idtree = bead red by choice of tree", "wood = bag of tree", "none = none by bead red",
    "rows = row of bead blue", "bags = bag of bead red", "one = bead red",
)


class Parted(unittest.TestCase):

    def check(self, told, book, name, other, other_name, top):
        for _ in range(2):
            found = parted(book, name, other, other_name, top)
            self.assertEqual(found, told, (name, other_name, top))
        if found is not None:
            self.assertIs(type(found), tuple)
            self.assertEqual([type(number) for number in found], [int, int, int])
        back = parted(other, other_name, book, name, top)
        self.assertEqual(back, told if told is None else (told[0], told[2], told[1]))

    def test_of_one_book(self):
        book = book_of(*BOOK)
        self.check(None, book, "tree", book, "tree", 40)
        self.check(None, book, "rows", book, "bags", 40)
        self.check((0, 0, 1), book, "tree", book, "wood", 40)
        self.check((3, 2, 1), book, "tree", book, "idtree", 40)
        self.check((3, 2, 1), book, "tree", book, "idtree", 3)
        self.check(None, book, "tree", book, "idtree", 2)
        self.check((2, 1, 0), book, "tree", book, "one", 40)
        self.check((1, 0, 1), book, "none", book, "one", 40)

    def test_of_two_books(self):
        book, other = book_of(*BOOK), book_of("x = bead blue by row of x", "tree = bead red or tree by tree", "e = nothing")
        self.check(None, other, "x", other, "tree", 40)
        self.check((4, 4, 5), book, "tree", other, "x", 40)
        self.check((4, 4, 5), book, "tree", other, "tree", 17)
        self.check(None, book, "tree", other, "tree", 3)
        self.check((1, 1, 0), book, "bags", other, "e", 1)
        self.check(None, book, "bags", other, "e", 0)

    def test_the_tops_nought_and_forty(self):
        late = "late = bag of bead red or " + " by ".join(["bead red"] * 40)
        book = book_of("bags = bag of bead red or none", "none = none by bead red", late, "hollow = nothing or nothing")
        self.check((40, 1, 2), book, "bags", book, "late", 40)
        self.check(None, book, "bags", book, "late", 39)
        self.check((0, 1, 2), book, "bags", book, "hollow", 0)
        self.check(None, book, "bags", book, "late", 0)

    def test_as_the_counts_tell(self):
        books = [(book, name) for book, _, _ in small_books()[::2] for name in book.names()]
        for (book, name), (other, other_name) in itertools.product(books[::3], books[::2]):
            one_counts, other_counts = Tally(book).upto(name, 7), Tally(other).upto(other_name, 7)
            places = [size for size in range(8) if one_counts[size] != other_counts[size]]
            told = (places[0], one_counts[places[0]], other_counts[places[0]]) if places else None
            self.check(told, book, name, other, other_name, 7)

    def test_great_counts(self):
        rows = (f"ten = {ors('nothing', 10)}", "c = " + " by ".join(["ten"] * 29), "d = " + " by ".join(["c"] * 29))
        book = book_of(*rows, "e = d by d by d by d", "f = e or nothing", "g = e")
        self.check((0, 10 ** 3364, 10 ** 3364 + 1), book, "e", book, "f", 40)
        self.check(None, book, "e", book, "g", 40)


class NoSuchClass(unittest.TestCase):

    def check(self, name_told, book, name, other, other_name):
        for top in (0, 40):
            with self.assertRaises(FigureError) as caught:
                parted(book, name, other, other_name, top)
            self.assertIs(type(caught.exception), NoClass)
            self.assertEqual(caught.exception.name, name_told)

    def test_the_first_book_ahead_of_the_other(self):
        book, other = book_of("a = bead red", "b = nothing"), book_of("c = bead red", "b = bead red")
        self.check("c", book, "c", other, "a")
        self.check("c", book, "c", other, "c")
        self.check("a", book, "a", other, "a")
        self.check("x", book, "x", book, "y")
        self.check("y", book, "a", book, "y")
        # The counts part at size 0 already, but the other name is none.
        self.check("y", book, "b", other, "y")
        self.assertEqual(parted(book, "b", other, "b", 40), (0, 1, 0))

    def test_arguments_by_their_names(self):
        book = book_of("a = bead red")
        self.assertIsNone(parted(book=book, name="a", other=book, other_name="a", top=5))
