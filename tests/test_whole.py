"""The promise over the whole program (3): counts, lists, numbers, own ways, namings and named counts agree."""

import math
import random
import unittest

from figurebook.books import Book
from figurebook.desk import Desk
from figurebook.errors import (
    FigureError, Hollow, NoBook, NoClass, NoFit, NoLine, NoNames, NoStep, NoSuch, NoText, Round, TooMany, Twice,
)
from figurebook.figures import is_plain, key_of, plain, size_of
from figurebook.fits import at_fault
from figurebook.lists import listed
from figurebook.named import named
from figurebook.numbers import figure_of, number_of
from figurebook.owns import namings, own
from figurebook.papers import leads, walked, way
from figurebook.parting import parted
from figurebook.reading import read_rule
from figurebook.tally import Tally
from figurebook.writings import figure_text, read_writing
from tests.made import SMALL_BOOKS
from tests.shapes import book_of, pairs_of
from tests.test_papers import shaken
from tests.written import RED

MOST = 400
BOOKS = tuple(rows for _, rows in SMALL_BOOKS) + (
    ("a = nothing or bead red by b", "b = bag of ( bead blue by a )", "c = ring of ( b by bead red )", "d = choice of c",
     "e = row of ( bead red or c ) by d", "f = a by b by nothing", "g = g by bead red or bead red", "h = e or f"),
)
TOP = 7


def desk_of(rows):
    desk = Desk()
    for row in rows:
        desk.said("rule " + row.replace(" = ", " "))
    desk.said("make")
    return desk


class Agreement(unittest.TestCase):

    def check_figures(self, book, name, size, figures):
        """The list, the numbers, own ways and namings of a class and a size."""
        keys = [key_of(figure) for figure in figures]
        self.assertEqual(keys, sorted(keys))
        for figure in figures:
            self.assertTrue(is_plain(figure))
            self.assertEqual(size_of(figure), size)
            self.assertIsNone(at_fault(book, name, figure))
            self.assertEqual(own(figure) * namings(figure), math.factorial(size))
        for number in range(0, len(figures), 1 + len(figures) // 6):
            self.assertEqual(figure_of(book, name, size, number), figures[number])
            self.assertEqual(number_of(book, name, figures[number]), number)

    def test_of_the_functions(self):
        for rows in BOOKS:
            book = book_of(*rows)
            for name in book.names():
                counts = Tally(book).upto(name, TOP)
                for size, count in enumerate(counts):
                    if count > MOST:
                        self.assertRaises(TooMany, listed, book, name, size)
                        continue
                    figures = listed(book, name, size)
                    self.assertEqual(len(figures), count)
                    self.check_figures(book, name, size, figures)
                    if not book.choices(name):
                        self.assertEqual(named(book, name, size), sum(map(namings, figures)))

    def test_of_the_desk(self):
        for rows in BOOKS:
            book, desk = book_of(*rows), desk_of(rows)
            for name in book.names():
                for size in range(5):
                    count = int(desk.said(f"count {name} {size}"))
                    self.assertEqual(count, Tally(book).count(name, size))
                    if count > MOST:
                        self.assertRaises(TooMany, desk.said, f"list {name} {size}")
                        continue
                    self.check_desk(desk, book, name, size, count)

    def check_desk(self, desk, book, name, size, count):
        figures = listed(book, name, size)
        texts = [figure_text(figure) for figure in figures]
        self.assertEqual(desk.said(f"list {name} {size}"), "; ".join(texts) if texts else "none")
        for number in range(0, count, 1 + count // 5):
            text = texts[number]
            self.assertEqual(desk.said(f"figure {name} {size} {number}"), text)
            self.assertEqual(desk.said(f"number {name} {text}"), str(number))
            self.assertEqual(desk.said(f"fits {name} {text}"), "yes")
            self.assertEqual(desk.said(f"plain {text}"), text)
            self.assertEqual(desk.said(f"own {text}"), str(own(figures[number])))
        if book.choices(name):
            self.assertRaises(NoNames, desk.said, f"named {name} {size}")
        else:
            self.assertEqual(desk.said(f"named {name} {size}"), str(sum(map(namings, figures))))

    def test_part_of_the_desk_and_the_function(self):
        for rows in BOOKS[::3]:
            book, desk = book_of(*rows), desk_of(rows)
            for one in book.names():
                for other in book.names():
                    told = parted(book, one, book, other, 9)
                    text = "alike" if told is None else " ".join(map(str, told))
                    self.assertEqual(desk.said(f"part {one} {other} 9"), text)

    def test_shaken_writings(self):
        chance = random.Random(5)
        for rows in BOOKS:
            book = book_of(*rows)
            for name in book.names():
                for size in range(TOP):
                    count = Tally(book).count(name, size)
                    if book.rings(name) and count > MOST:
                        continue
                    for number in range(0, count, 1 + count // 3):
                        figure = figure_of(book, name, size, number)
                        one, other = shaken(figure, chance), shaken(figure, chance)
                        self.assertEqual(plain(one), figure)
                        self.assertEqual(number_of(book, name, one), number)
                        self.assertEqual(own(one), own(figure))
                        steps = way(one, other)
                        self.assertEqual(walked(one, steps), other)
                        self.assertTrue(leads(one, other, steps))
                        self.assertEqual(read_writing(figure_text(one)), one)


class ToldAnew(unittest.TestCase):

    def test_the_same_book_made_and_read_again(self):
        for rows in BOOKS:
            pairs = pairs_of(*rows)
            book = Book(pairs)
            again = Book([(name, read_rule(rule.told())) for name, rule in pairs])
            for name in book.names():
                self.assertIsNone(parted(book, name, again, name, 12))
                for size in range(4):
                    if Tally(book).count(name, size) <= MOST:
                        self.assertEqual(listed(book, name, size), listed(again, name, size))


class EachRefusal(unittest.TestCase):

    def check(self, kind, deed, **values):
        with self.assertRaises(ValueError) as caught:
            deed()
        told = caught.exception
        self.assertIs(type(told), kind)
        self.assertEqual(kind.__bases__, (FigureError,))
        self.assertEqual(FigureError.__bases__, (ValueError,))
        for name, value in values.items():
            self.assertEqual(getattr(told, name), value)
            self.assertIs(type(getattr(told, name)), type(value))

    def test_each_of_its_own_class_alone_with_its_value(self):
        book = book_of("a = row of ( bead red or bead blue )", "b = choice of bead red")
        self.check(NoText, lambda: read_rule("bead"), at=1)
        self.check(NoText, lambda: read_writing("( red"), at=2)
        self.check(Twice, lambda: book_of("a = nothing", "a = nothing"), name="a")
        self.check(NoClass, lambda: book_of("a = b"), name="b")
        self.check(NoClass, lambda: listed(book, "x", 0), name="x")
        self.check(Hollow, lambda: book_of("a = row of nothing"), name="a")
        self.check(Round, lambda: book_of("a = a"), circle=["a"])
        self.check(NoFit, lambda: number_of(book, "a", ("row", (RED,))), path=(0,))
        self.check(TooMany, lambda: listed(book, "a", 9))
        self.check(NoSuch, lambda: figure_of(book, "a", 2, 4))
        self.check(NoNames, lambda: named(book, "b", 0))
        self.check(NoStep, lambda: walked(RED, [("swap", (), 0)]), at=0)
        self.check(NoLine, lambda: Desk().said("what"), line="what")
        self.check(NoBook, lambda: Desk().said("make"))
