"""Whether a writing fits a class (18), and the path of the part at fault (19)."""

import unittest

from figurebook.books import Book
from figurebook.errors import FigureError, NoClass
from figurebook.figures import part_at, plain
from figurebook.fits import at_fault
from figurebook.rules import Bead, By, Named
from figurebook.writings import read_writing
from tests.shapes import book_of, shape
from tests.written import BLUE, NOTHING, RED, deep, led_to, parts_of, plain_told, small_writings

TREES = ("tree = bead red by bag of tree", "wood = bag of tree", "mob = choice of tree", "band = ring of tree")


def fault_told(rules, rule, writing, path=()):
    """The path of the part at fault, as the document tells it; rules are shapes by their names."""
    kind, parts = writing[0], parts_of(writing)
    while rule[0] == "Named":
        rule = rules[rule[1]]
    asked = {"Or": ("left", "right"), "By": ("pair",)}.get(rule[0], (rule[0].lower(),))
    if kind not in asked or rule[0] == "Bead" and writing[1] != rule[1] or kind == "ring" and not parts:
        return path
    if rule[0] == "Or":
        inner = [rule[1] if kind == "left" else rule[2]]
    elif rule[0] == "By":
        inner = rule[1:]
    else:
        inner = rule[1:] * len(parts)
    for number, part in enumerate(parts):
        fault = fault_told(rules, inner[number], part, path + (number,))
        if fault is not None:
            return fault
    if kind == "choice" and len({plain_told(part) for part in parts}) < len(parts):
        return path
    return None


class Checked(unittest.TestCase):

    def check(self, fault, rule, text, *rows):
        """Of a class x of this rule, and further classes, the path of the part at fault of the writing of a text."""
        book = book_of(f"x = {rule}", *rows)
        writing = read_writing(text)
        for _ in range(2):
            told = at_fault(book, "x", writing)
            self.assertEqual(told, fault, (rule, text))
        if fault is not None:
            self.assertIs(type(told), tuple)
            self.assertIsNotNone(part_at(writing, told))


class Fitting(Checked):

    def test_each_kind(self):
        self.check(None, "nothing", "nothing")
        self.check(None, "bead red", "red")
        self.check(None, "bead red or bead blue", "left red")
        self.check(None, "bead red or bead blue", "right blue")
        self.check(None, "bead red or bead red", "left red")
        self.check(None, "bead red or bead red", "right red")
        self.check(None, "bead red by bead blue", "( red blue )")
        self.check(None, "nothing by nothing", "( nothing nothing )")
        for word, first, last in (("row", "[", "]"), ("bag", "{", "}"), ("ring", "((", "))"), ("choice", "<", ">")):
            self.check(None, f"{word} of bead red", f"{first} red {last}")
            self.check(None, f"{word} of ( bead red or bead blue )", f"{first} left red right blue {last}")
        for word, first, last in (("row", "[", "]"), ("bag", "{", "}"), ("ring", "((", "))")):
            self.check(None, f"{word} of bead red", f"{first} red red red {last}")
        for word, first, last in (("row", "[", "]"), ("bag", "{", "}"), ("choice", "<", ">")):
            self.check(None, f"{word} of bead red", f"{first} {last}")

    def test_names_leave_no_mark(self):
        self.check(None, "a", "red", "a = bead red")
        self.check(None, "a", "red", "a = b", "b = c", "c = bead red")
        self.check(None, "a by b", "( red left red )", "a = bead red", "b = a or nothing")
        self.check(None, "bead red by bag of x", "( red { ( red { } ) ( red { ( red { } ) } ) } )")

    def test_bags_poured_and_rings_begun_otherwise(self):
        for text in ("{ left red right blue }", "{ right blue left red }"):
            self.check(None, "bag of ( bead red or bead blue )", text)
        for text in ("< left red right blue >", "< right blue left red >"):
            self.check(None, "choice of ( bead red or bead blue )", text)
        for text in ("(( left red left red right blue ))", "(( left red right blue left red ))"):
            self.check(None, "ring of ( bead red or bead blue )", text)
        book = book_of(*TREES)
        leaf = ("pair", RED, ("bag", ()))
        twig = ("pair", RED, ("bag", (leaf, leaf)))
        tree = ("pair", RED, ("bag", (leaf, ("pair", RED, ("bag", (leaf, twig))), twig)))
        for other in led_to(tree):
            self.assertIsNone(at_fault(book, "tree", other))
        for other in led_to(("ring", (leaf, twig, tree))):
            self.assertIsNone(at_fault(book, "band", other))

    def test_a_class_without_figures(self):
        self.check((1,), "bead red by x", "( red red )")
        self.check((1, 1, 1), "bead red by x", "( red ( red ( red red ) ) )")
        self.check(None, "row of y", "[ ]", "y = y by bead red")
        self.check((0,), "row of y", "[ red ]", "y = y by bead red")


class AtFault(Checked):

    def test_another_kind_as_the_whole(self):
        asked = {
            "nothing": "nothing", "bead red": "red", "bead red by bead red": "( red red )", "row of bead red": "[ red ]",
            "bag of bead red": "{ red }", "choice of bead red": "< red >", "ring of bead red": "(( red ))",
            "bead red or bead red": "left red",
        }
        for rule in asked:
            for other, text in asked.items():
                self.check(None if rule == other else (), rule, text)
        self.check((), "nothing by bead red", "right red")
        self.check((), "row of bead blue by bead red", "[ ]")

    def test_another_colour(self):
        self.check((), "bead red", "blue")
        self.check((), "bead red", "redd")
        self.check((0,), "bead red by bead blue", "( blue red )")
        self.check((1,), "bead red by bead blue", "( red red )")
        self.check((0,), "bead red or bead blue", "left blue")
        self.check((0,), "bead red or bead blue", "right red")
        for word, first, last in (("row", "[", "]"), ("bag", "{", "}"), ("choice", "<", ">"), ("ring", "((", "))")):
            self.check((0,), f"{word} of bead red", f"{first} blue red {last}")
            self.check((1,), f"{word} of bead red", f"{first} red blue green {last}")
            self.check((2,), f"{word} of bead red", f"{first} red red blue {last}")

    def test_a_ring_without_parts(self):
        self.check((), "ring of bead red", "(( ))")
        self.check((1,), "bead red by ring of bead red", "( red (( )) )")
        self.check((1,), "row of ring of bead red", "[ (( red )) (( )) (( blue )) ]")
        self.check((0, 1), "row of ring of bead red", "[ (( red blue )) (( )) ]")
        self.check((0,), "ring of ring of bead red", "(( (( )) ))")

    def test_a_name_adds_nothing_to_a_path(self):
        self.check((), "a", "blue", "a = b", "b = bead red")
        self.check((1,), "a", "( red blue )", "a = b", "b = c by c", "c = bead red")
        self.check((0, 1), "a or nothing", "left ( red red )", "a = b", "b = c by d", "c = bead red", "d = bead blue")
        self.check((1, 0, 1, 0, 0), "bead red by bag of x", "( red { ( red { ( blue { } ) } ) } )")
        self.check((1, 1, 1), "bead red by bag of x", "( red { ( red { } ) ( red blue ) ( blue { } ) } )")

    def test_the_side_of_an_or(self):
        self.check((0,), "bead red or bead blue by bead red", "left ( blue red )")
        self.check((0,), "bead red or bead blue by bead red", "right red")
        self.check((0, 1), "bead red or bead blue by bead red", "right ( blue blue )")
        self.check((0,), "bead red or bead blue or bead green", "left green")
        self.check((0, 0), "bead red or bead blue or bead green", "left left green")
        self.check(None, "bead red or bead blue or bead green", "left right blue")

    def test_each_one_ahead_of_its_parts(self):
        self.check((), "row of bead red", "{ blue (( )) }")
        self.check((0,), "row of ring of bead red", "[ [ blue ] (( blue )) ]")

    def test_the_parts_in_their_order_with_all_that_is_in_them(self):
        rule = "row of ( bead red by ring of bead blue )"
        self.check((0, 1, 0), rule, "[ ( red (( red )) ) ( blue (( )) ) ]")
        self.check((1, 0), rule, "[ ( red (( blue )) ) ( blue (( )) ) ]")
        self.check((1, 1), rule, "[ ( red (( blue )) ) ( red (( )) ) nothing ]")
        self.check((0, 0), rule, "[ ( blue (( )) ) nothing ]")
        self.check((2,), rule, "[ ( red (( blue )) ) ( red (( blue blue )) ) nothing ]")


class Twins(Checked):

    def test_in_the_whole(self):
        self.check((), "choice of bead red", "< red red >")
        self.check((), "choice of ( bead red or bead blue )", "< left red right blue left red >")
        self.check((), "choice of ( bead red or bead blue )", "< right blue left red left red >")
        self.check(None, "choice of ( bead red or bead red )", "< left red right red >")

    def test_not_in_a_bag_row_or_ring(self):
        for word, first, last in (("row", "[", "]"), ("bag", "{", "}"), ("ring", "((", "))")):
            self.check(None, f"{word} of bead red", f"{first} red red {last}")

    def test_twins_by_their_plain_figures(self):
        rule = "choice of ( bead red by bag of ( bead red or bead blue ) )"
        self.check((), rule, "< ( red { left red right blue } ) ( red { right blue left red } ) >")
        self.check(None, rule, "< ( red { left red right blue } ) ( red { right blue right blue } ) >")
        rule = "choice of ring of ( bead red or bead blue )"
        self.check((), rule, "< (( left red right blue )) (( left red )) (( right blue left red )) >")
        self.check((), rule, "< (( left red left red right blue )) (( left red right blue left red )) >")
        self.check(None, rule, "< (( left red left red right blue )) (( left red right blue right blue )) >")
        rule = "choice of ( bead red by row of bead blue )"
        self.check((), rule, "< ( red [ blue ] ) ( red [ ] ) ( red [ blue ] ) >")
        rule = "choice of ( bead red by row of ( bead red or bead blue ) )"
        self.check(None, rule, "< ( red [ left red right blue ] ) ( red [ right blue left red ] ) >")

    def test_behind_all_that_is_in_its_parts(self):
        self.check((2,), "choice of bead red", "< red red blue >")
        self.check((2,), "choice of ring of bead red", "< (( red )) (( red )) (( )) >")
        self.check((2, 1), "choice of ring of bead red", "< (( red )) (( red )) (( red blue )) >")

    def test_ahead_of_what_comes_behind_it(self):
        rule = "row of ( bead red by choice of bead red )"
        self.check((0, 1), rule, "[ ( red < red red > ) ( blue < > ) ]")
        self.check((1, 0), rule, "[ ( red < red > ) ( blue < red red > ) ]")
        self.check((1, 1), rule, "[ ( red < red > ) ( red < red red > ) nothing ]")
        self.check((0,), "choice of bead red by bead blue", "( < red red > red )")
        self.check((1,), "bead blue by choice of bead red", "( blue < red red > )")

    def test_the_inner_choice_ahead_of_the_outer_one(self):
        rule = "choice of ( bead red by choice of bead blue )"
        self.check((0, 1), rule, "< ( red < blue blue > ) ( red < blue blue > ) >")
        self.check((), rule, "< ( red < blue > ) ( red < blue > ) >")
        self.check((1, 1), rule, "< ( red < > ) ( red < blue blue > ) ( red < > ) >")
        self.check(None, rule, "< ( red < > ) ( red < blue > ) >")


class NoSuchClass(unittest.TestCase):

    def test_whatever_the_writing(self):
        book = book_of("a = bead red", "b = ring of a")
        for writing in (RED, BLUE, NOTHING, ("ring", ()), ("choice", (RED, RED)), ("row", (RED,))):
            for name in ("c", "red", ""):
                for _ in range(2):
                    with self.assertRaises(FigureError) as caught:
                        at_fault(book, name, writing)
                    self.assertIs(type(caught.exception), NoClass)
                    self.assertEqual(caught.exception.name, name)
        self.assertIsNone(at_fault(book, "a", RED))

    def test_by_their_arguments_names(self):
        self.assertEqual(at_fault(book=book_of("a = bead red"), name="a", writing=BLUE), ())


class Large(unittest.TestCase):

    def test_deep_ones(self):
        book = book_of("x = bead red or y", "y = bead blue or z", "z = bead red by w", "w = ring of x")
        # An x is ("right", ("right", ("pair", red, ("ring", (x,))))) time and again, and ("left", red) at last.
        kinds = ("ring", "pair", "right", "right")
        for times in (29, 59):
            fitting = deep(4 * times + 1, kinds, ("left", RED), RED)
            self.assertIsNone(at_fault(book, "x", fitting))
            wrong = deep(4 * times + 1, kinds, ("left", BLUE), RED)
            self.assertEqual(at_fault(book, "x", wrong), (0, 0, 1, 0) * times + (0,))
            wrong = deep(4 * times + 1, kinds, ("left", RED), BLUE)
            self.assertEqual(at_fault(book, "x", wrong), (0, 0, 0))

    def test_deep_choices(self):
        book = book_of("x = nothing or bead red by choice of y", "y = bead red by choice of y")
        for many in (59, 119):
            writing = ("pair", RED, ("choice", ()))
            twins = ("pair", RED, ("choice", (writing, writing)))
            for _ in range(many - 2):
                writing = ("pair", RED, ("choice", (writing,)))
                twins = ("pair", RED, ("choice", (("pair", RED, ("choice", ())), twins)))
            self.assertIsNone(at_fault(book, "y", writing))
            self.assertIsNone(at_fault(book, "x", ("right", writing)))
            self.assertEqual(at_fault(book, "y", twins), (1, 1) * (many - 2) + (1,))

    def test_six_hundred(self):
        book = book_of("x = row of bead red", "y = choice of ( bead red or bead blue )", "z = ring of bead red")
        self.assertIsNone(at_fault(book, "x", ("row", (RED,) * 599)))
        self.assertEqual(at_fault(book, "x", ("row", (RED,) * 598 + (BLUE,))), (598,))
        self.assertEqual(at_fault(book, "y", ("choice", (("left", RED),) * 299)), ())
        self.assertIsNone(at_fault(book, "z", ("ring", (RED,) * 599)))


class AllSmallWritings(unittest.TestCase):

    def check(self, *rows, most=4, colours=("red", "blue")):
        book = book_of(*rows)
        rules = {name: shape(book.rule(name)) for name in book.names()}
        fitting = {name: 0 for name in rules}
        for writing in small_writings(most, colours):
            for name, rule in rules.items():
                told = at_fault(book, name, writing)
                self.assertEqual(told, fault_told(rules, rule, writing), (name, writing))
                if told is None:
                    fitting[name] += 1
                    self.assertIsNone(at_fault(book, name, plain(writing)))
        return fitting

    def test_books_of_two_colours(self):
        self.check("a = nothing or bead red", "b = bead red by a", "c = row of bead red", "d = bag of ( bead blue or b )",
                   "e = choice of f", "f = bead red or bead blue", "g = ring of f", "h = choice of g or c by c")
        self.check("a = choice of b", "b = choice of ring of bead red by bead red", "c = ring of ring of bead blue",
                   "d = bead red by d", "e = row of d", "f = b or f by bead red", *TREES[:2])

    def test_longer_writings(self):
        fitting = self.check("a = choice of ring of bead red", "b = bag of c", "c = bead red or ring of bead red",
                             "d = bead red by bag of d", most=5, colours=("red",))
        self.assertEqual(fitting, {"a": 4, "b": 5, "c": 4, "d": 1})

    def test_trees(self):
        book = book_of(*TREES)
        leaf = ("pair", RED, ("bag", ()))
        twig = ("pair", RED, ("bag", (leaf,)))
        self.assertIsNone(at_fault(book, "tree", twig))
        self.assertIsNone(at_fault(book, "wood", ("bag", (leaf, twig, leaf))))
        self.assertIsNone(at_fault(book, "mob", ("choice", (leaf, twig))))
        self.assertEqual(at_fault(book, "mob", ("choice", (leaf, twig, leaf))), ())
        self.assertIsNone(at_fault(book, "band", ("ring", (leaf, twig, leaf))))
        self.assertEqual(at_fault(book, "band", ("ring", (leaf, RED, leaf))), (1,))

    def test_nothing_handed_in_is_changed(self):
        pairs = [("a", By(Bead("red"), Named("b"))), ("b", Bead("blue"))]
        before = [shape(rule) for _, rule in pairs]
        book = Book(pairs)
        writing = ("pair", RED, RED)
        self.assertEqual(at_fault(book, "a", writing), (1,))
        self.assertEqual(writing, ("pair", RED, RED))
        self.assertEqual([shape(rule) for _, rule in pairs], before)
        self.assertEqual(book.names(), ["a", "b"])
