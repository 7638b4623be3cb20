"""Books (9), what classes lean on and speak of (10, 11), and which books are refused (3, 11)."""

import itertools
import unittest

from figurebook.books import Book
from figurebook.errors import FigureError, Hollow, NoClass, Round, Twice
from figurebook.reading import read_rule
from figurebook.rules import Bag, Bead, By, Choice, Named, Nothing, Or, Ring, Row
from tests.shapes import ONE_PART, book_of, pairs_of, rules_of, shape

FOUR = ("row", "bag", "choice", "ring")


class Classes(unittest.TestCase):

    def test_names_in_the_order_of_the_list(self):
        self.assertEqual(book_of("b = nothing", "a = b", "c = bead red").names(), ["b", "a", "c"])
        self.assertEqual(book_of("z = bead red").names(), ["z"])

    def test_the_very_rule_handed_in(self):
        pairs = pairs_of("b = row of a", "a = bead red", "c = a or b")
        book = Book(pairs)
        for name, rule in pairs:
            self.assertIs(book.rule(name), rule)

    def test_one_rule_under_two_names(self):
        rule = Bead("red")
        book = Book([("a", rule), ("b", rule)])
        self.assertEqual(book.names(), ["a", "b"])
        self.assertIs(book.rule("a"), rule)
        self.assertIs(book.rule("b"), rule)

    def test_eight_classes(self):
        rows = [f"{name} = bead red by row of {other}" for name, other in zip("abcdefgh", "bcdefgha")]
        book = book_of(*rows)
        self.assertEqual(book.names(), list("abcdefgh"))
        for name in "abcdefgh":
            self.assertEqual(book.least(name), 1)
            self.assertEqual(book.leans(name), [])
            self.assertEqual(book.speaks(name), list("abcdefgh"))

    def test_eight_classes_that_lean_on_the_next(self):
        rows = [f"{name} = {other} or nothing by ( {other} )" for name, other in zip("abcdefg", "bcdefgh")]
        book = book_of(*rows, "h = bead red or nothing")
        for name, other in zip("abcdefg", "bcdefgh"):
            self.assertEqual(book.leans(name), [other])
            self.assertIs(book.hollow(name), True)
        self.assertEqual(book.leans("h"), [])

    def test_arguments_by_their_names(self):
        book = Book(pairs=[("a", Ring(Bead("red")))])
        self.assertEqual(shape(book.rule(name="a")), ("Ring", ("Bead", "red")))
        self.assertIs(book.hollow(name="a"), False)
        self.assertEqual(book.least(name="a"), 1)
        self.assertEqual(book.leans(name="a"), [])
        self.assertEqual(book.speaks(name="a"), [])
        self.assertIs(book.rings(name="a"), True)
        self.assertIs(book.choices(name="a"), False)

    def test_no_class_in_every_method_that_takes_a_name(self):
        book = book_of("a = bead red", "b = ring of a")
        for name in ("c", "aa", "red", "ring", ""):
            for method in (book.rule, book.hollow, book.least, book.leans, book.speaks, book.rings, book.choices):
                for _ in range(2):
                    with self.assertRaises(NoClass) as caught:
                        method(name)
                    self.assertIs(type(caught.exception), NoClass)
                    self.assertEqual(caught.exception.name, name)
        self.assertEqual(book.names(), ["a", "b"])

    def test_rules_as_large_as_they_may_be(self):
        wide = read_rule(" or ".join(["bead red"] * 30))
        deep = Bead("red")
        for at in range(29):
            deep = Ring(deep) if at % 2 else Or(deep, Named("wide"))
        long = read_rule(" by ".join(["row of wide"] * 20))
        book = Book([("deep", deep), ("wide", wide), ("long", long)])
        self.assertEqual([book.least(name) for name in book.names()], [1, 1, 0])
        self.assertEqual(book.leans("deep"), ["wide"])
        self.assertEqual(book.leans("long"), ["wide"])
        self.assertIs(book.rings("deep"), True)


class HollowClasses(unittest.TestCase):

    def check(self, hollow, *rows):
        """The first class is hollow, or is not."""
        book = book_of(*rows)
        self.assertIs(book.hollow(book.names()[0]), hollow, rows)

    def test_each_kind(self):
        self.check(True, "a = nothing")
        self.check(False, "a = bead red")
        self.check(True, "a = nothing or bead red")
        self.check(True, "a = bead red or nothing")
        self.check(True, "a = nothing or nothing")
        self.check(False, "a = bead red or bead red")
        self.check(True, "a = nothing by nothing")
        self.check(False, "a = nothing by bead red")
        self.check(False, "a = bead red by nothing")
        self.check(False, "a = bead red by bead red")
        self.check(True, "a = row of bead red")
        self.check(True, "a = bag of bead red")
        self.check(True, "a = choice of bead red")
        self.check(False, "a = ring of bead red")
        self.check(True, "a = b", "b = nothing")
        self.check(False, "a = b", "b = bead red")

    def test_through_names_of_names(self):
        self.check(True, "a = b", "b = c", "c = d by d", "d = row of bead red")
        self.check(False, "a = b", "b = c", "c = d by e", "d = row of bead red", "e = ring of bead red")
        self.check(True, "a = b by c or e", "b = c", "c = nothing", "e = bead red")

    def test_only_for_these_reasons_finitely_often(self):
        self.check(False, "a = a by bead red")
        self.check(False, "a = bead red by ( a or bead red )")
        self.check(False, "a = bead red by b", "b = bead red by a")
        self.check(True, "a = bead red by b or c", "b = bead red by a", "c = nothing")

    def test_hollow_by_a_class_that_stands_ahead_or_behind(self):
        for order in itertools.permutations(("a = b by c", "b = nothing or bead red by a", "c = row of bead red")):
            book = book_of(*order)
            for name in "abc":
                self.assertIs(book.hollow(name), True)


class Least(unittest.TestCase):

    def check(self, least, *rows):
        book = book_of(*rows)
        told = book.least(book.names()[0])
        self.assertEqual(told, least, rows)
        self.assertIs(type(told), type(least))

    def test_each_kind(self):
        self.check(0, "a = nothing")
        self.check(1, "a = bead red")
        self.check(1, "a = bead red by bead red or bead red")
        self.check(1, "a = bead red or bead red by bead red")
        self.check(2, "a = bead red by bead blue")
        self.check(3, "a = bead red by ( bead blue by bead red )")
        self.check(0, "a = row of bead red")
        self.check(0, "a = bag of bead red")
        self.check(0, "a = choice of bead red")
        self.check(1, "a = ring of bead red")
        self.check(2, "a = ring of ( bead red by bead red or bead red by bead red by bead red )")
        self.check(1, "a = bead red by bag of ( bead red by bead red )")
        self.check(3, "a = b by bead red", "b = bead red by bead red")

    def test_no_figures(self):
        self.check(None, "x = x by bead red")
        self.check(None, "x = bead red by x")
        self.check(None, "x = y by bead red", "y = x by bead red")
        self.check(None, "x = y", "y = y by bead red")
        self.check(None, "x = y or z", "y = y by bead red", "z = bead red by z or y")
        self.check(None, "x = nothing by y", "y = y by bead red")
        self.check(None, "x = ring of y", "y = y by bead red")
        self.check(None, "x = bead red by ring of x")

    def test_some_of_these_have_figures(self):
        self.check(0, "x = row of y", "y = y by bead red")
        self.check(0, "x = bag of y", "y = y by bead red")
        self.check(0, "x = choice of y", "y = y by bead red")
        self.check(1, "x = y or bead red", "y = y by bead red")
        self.check(1, "x = bead red or y", "y = y by bead red")
        self.check(1, "x = x by bead red or bead blue")
        self.check(2, "x = bead red by y", "y = x by x by x or bead red")
        self.check(1, "x = bead red by bag of x")

    def test_a_class_of_classes_without_figures(self):
        book = book_of("a = b by c", "b = bead red", "c = d or c by b", "d = c by b")
        self.assertEqual([book.least(name) for name in "abcd"], [None, 1, None, None])
        self.assertEqual([book.hollow(name) for name in "abcd"], [False] * 4)

    def test_a_lesser_one_found_later(self):
        self.check(2, "a = b or c", "b = bead red by bead red by bead red", "c = d by bead red", "d = e",
                   "e = f or b", "f = bead blue")

    def test_great_ones(self):
        rows = [f"{name} = " + " by ".join([other] * 30) for name, other in zip("abcdefg", "bcdefgh")]
        self.check(30 ** 7, *rows, "h = bead red")


class Leans(unittest.TestCase):

    def check(self, leans, rule):
        """Of a rule of x, of the hollow classes a, b and the others c, d."""
        book = book_of(f"x = {rule}", "a = nothing", "b = row of bead red", "c = bead red", "d = c by a")
        self.assertEqual(book.leans("x"), leans, rule)

    def test_through_each_kind(self):
        self.check([], "nothing")
        self.check([], "bead a")
        self.check(["a"], "a")
        self.check(["c"], "c")
        self.check(["a", "c"], "a or c")
        self.check(["a", "c"], "c or a")
        for word in FOUR:
            self.check(["c"], f"{word} of c")
            self.check(["c", "d"], f"{word} of ( d or c )")

    def test_through_a_by_only_beside_what_is_hollow(self):
        self.check(["a", "b"], "a by b")
        self.check(["c"], "a by c")
        self.check(["c"], "c by a")
        self.check([], "c by d")
        self.check([], "a by bead red")
        self.check(["a"], "a by nothing")
        self.check(["a"], "nothing by a")
        self.check(["c"], "c by ( bead red or nothing )")
        self.check([], "c by ( bead red or d )")
        self.check(["a", "b", "c"], "( a or c ) by b")
        self.check(["c"], "( a or c ) by ring of bead red or c")

    def test_through_one_by_within_another(self):
        self.check(["c"], "a by b by c")
        self.check(["c"], "a by ( c by b )")
        self.check([], "a by ( c by d )")
        self.check([], "c by ( a by b ) by bead red")
        self.check(["c"], "c by ( a by b )")
        self.check([], "bead red by ( a by b )")
        self.check(["c"], "row of ( c by a ) by nothing")
        self.check([], "row of ( c by d ) by nothing")
        self.check(["c"], "row of c by bag of c")
        self.check(["d"], "row of c by ring of d")
        self.check(["c"], "row of ( c by a ) by bag of c by choice of ( b by c )")

    def test_each_once_in_the_order_of_the_alphabet(self):
        self.check(["a", "b", "c", "d"], "d or c or b or a or d or c")
        self.check(["a", "b"], "b by a or b by a or b")

    def test_the_order_is_that_of_the_alphabet_not_of_the_list(self):
        book = book_of("x = b or ab or a", "b = bead red", "a = bead red", "ab = bead red")
        self.assertEqual(book.leans("x"), ["a", "ab", "b"])

    def test_not_through_the_rules_of_names(self):
        book = book_of("x = a", "a = b", "b = bead red")
        self.assertEqual(book.leans("x"), ["a"])
        self.assertEqual(book.leans("a"), ["b"])


class Speaks(unittest.TestCase):

    def test_of_what_stands_in_its_rule(self):
        book = book_of("x = d by row of c or bead b by a", "a = bead red", "b = bead red", "c = bead a", "d = nothing")
        self.assertEqual(book.speaks("x"), ["a", "c", "d"])
        for name in "abcd":
            self.assertEqual(book.speaks(name), [])

    def test_of_what_those_speak_of(self):
        book = book_of("a = d", "b = bead red", "c = b by b", "d = ring of ( c or e )", "e = bead red", "f = nothing")
        self.assertEqual(book.speaks("a"), ["b", "c", "d", "e"])
        self.assertEqual(book.speaks("d"), ["b", "c", "e"])
        self.assertEqual(book.speaks("c"), ["b"])
        self.assertEqual(book.speaks("b"), [])

    def test_itself_where_it_comes_round(self):
        book = book_of("x = bead red by bag of x", "y = x by y", "z = y")
        self.assertEqual(book.speaks("x"), ["x"])
        self.assertEqual(book.speaks("y"), ["x", "y"])
        self.assertEqual(book.speaks("z"), ["x", "y"])
        book = book_of("a = bead red by b", "b = c or bead red", "c = bead red by a", "d = c")
        for name in "abcd":
            self.assertEqual(book.speaks(name), ["a", "b", "c"])

    def test_also_where_it_does_not_lean(self):
        book = book_of("x = a by bead red", "a = bead red")
        self.assertEqual(book.leans("x"), [])
        self.assertEqual(book.speaks("x"), ["a"])

    def test_rings_and_choices(self):
        book = book_of(
            "a = bead red by b", "b = c by nothing", "c = d or bead red", "d = ring of bead red",
            "e = choice of bead red by d", "f = e", "g = bead rings or row of ( bead red by bag of bead blue )",
            "h = g by g",
        )
        self.assertEqual([book.rings(name) for name in "abcdefgh"], [True] * 6 + [False] * 2)
        self.assertEqual([book.choices(name) for name in "abcdefgh"], [False] * 4 + [True] * 2 + [False] * 2)

    def test_rings_and_choices_within_each_kind(self):
        for word, other in (("ring", "choice"), ("choice", "ring")):
            for text in ("{}", "nothing or {}", "{} or nothing", "bead red by {}", "{} by bead red",
                         "row of ( bead red by {} )", "bag of ( {} by bead red )", "choice of ( bead red by {} )",
                         "ring of ( bead red by {} )"):
                book = book_of("a = " + text.format(f"{word} of bead red"), "b = nothing or bead red by a")
                for name in "ab":
                    self.assertIs(book.rings(name), word == "ring" or text.startswith("ring"))
                    self.assertIs(book.choices(name), word == "choice" or text.startswith("choice"))

    def test_rings_and_choices_of_classes_that_come_round(self):
        book = book_of("a = bead red by b", "b = bead red by c", "c = bead red by a or d", "d = ring of e", "e = bead x",
                       "f = f by bead red by choice of f")
        self.assertEqual([book.rings(name) for name in "abcdef"], [True] * 4 + [False] * 2)
        self.assertEqual([book.choices(name) for name in "abcdef"], [False] * 5 + [True])


class Unchanged(unittest.TestCase):

    def test_the_list_of_pairs_is_the_askers(self):
        pairs = pairs_of("b = bead red by bag of b", "a = ring of b")
        before = list(pairs)
        book = Book(pairs)
        self.assertEqual(pairs, before)
        pairs.append(("c", Nothing()))
        pairs[0] = ("z", Nothing())
        pairs.reverse()
        self.assertEqual(book.names(), ["b", "a"])
        self.assertIs(book.rule("b"), before[0][1])
        self.assertIs(book.rule("a"), before[1][1])
        for name in "cz":
            self.assertRaises(NoClass, book.rule, name)
        pairs.clear()
        self.assertEqual(book.speaks("a"), ["b"])
        self.assertEqual(book.least("a"), 1)

    def test_rules_are_not_changed(self):
        pairs = pairs_of("b = bead red by bag of b or nothing by a", "a = ring of ( bead red or bead blue by b )")
        before = [(name, shape(rule)) for name, rule in pairs]
        Book(pairs)
        self.assertEqual([(name, shape(rule)) for name, rule in pairs], before)

    def test_told_lists_are_the_askers_own(self):
        book = book_of("b = bead red or a", "a = nothing", "c = b or a")
        for method, names in ((book.names, ()), (book.leans, ("c",)), (book.speaks, ("c",))):
            told = method(*names)
            self.assertIs(type(told), list)
            before = list(told)
            told.append("z")
            told.reverse()
            again = method(*names)
            self.assertEqual(again, before)
            again.clear()
            self.assertEqual(told, ["z"] + before[::-1])
            self.assertEqual(method(*names), before)
        self.assertEqual(book.names(), ["b", "a", "c"])
        self.assertEqual((book.leans("b"), book.leans("c")), (["a"], ["a", "b"]))

    def test_asked_again_the_same_is_told(self):
        book = book_of("a = nothing or bead red by b", "b = choice of ring of bead red or a", "c = c by bead red")

        def all_told():
            return [
                (name, book.rule(name), book.hollow(name), book.least(name), book.leans(name), book.speaks(name),
                 book.rings(name), book.choices(name)) for name in book.names()
            ]
        before = all_told()
        self.assertRaises(NoClass, book.leans, "d")
        book.names().clear()
        self.assertEqual(all_told(), before)

    def test_two_books_do_not_touch_each_other(self):
        one = book_of("a = bead red", "b = a")
        other = book_of("a = nothing")
        self.assertIs(one.hollow("a"), False)
        self.assertIs(other.hollow("a"), True)
        self.assertEqual(other.names(), ["a"])
        self.assertRaises(NoClass, other.leans, "b")


class Refused(unittest.TestCase):

    def check(self, kind, value, *rows):
        """Refused with this kind, whose name is this one; asked again, too."""
        pairs = pairs_of(*rows)
        before = list(pairs)
        for _ in range(2):
            with self.assertRaises(FigureError, msg=rows) as caught:
                Book(pairs)
            self.assertIs(type(caught.exception), kind, rows)
            self.assertEqual(caught.exception.name, value, rows)
        self.assertEqual(pairs, before)

    def test_twice(self):
        self.check(Twice, "a", "a = nothing", "a = nothing")
        self.check(Twice, "b", "a = nothing", "b = bead red", "c = nothing", "b = bead blue")
        self.check(Twice, "b", "a = nothing", "b = bead red", "b = bead blue", "a = nothing")
        self.check(Twice, "a", "a = nothing", "b = bead red", "a = bead blue", "b = nothing")
        self.check(Twice, "b", "b = nothing", "b = bead red", "b = bead blue", "a = nothing", "a = nothing")
        rule = Bead("red")
        with self.assertRaises(Twice):
            Book([("a", rule), ("a", rule)])

    def test_no_class(self):
        self.check(NoClass, "b", "a = b")
        self.check(NoClass, "b", "a = nothing by row of ( bead red or bag of b )")
        self.check(NoClass, "c", "a = b", "b = c by a")
        self.check(NoClass, "red", "a = bead red or red")
        for word in FOUR:
            self.check(NoClass, "x", "a = bead red", f"b = {word} of x")

    def test_the_first_unknown_name_by_the_list_and_then_the_alphabet(self):
        self.check(NoClass, "x", "a = z by x by y")
        self.check(NoClass, "z", "a = bead red", "b = z", "c = x")
        self.check(NoClass, "y", "a = b by a by b", "b = z or y or a", "c = x")
        self.check(NoClass, "aa", "b = z or ab or aa or b")
        self.check(NoClass, "a", "c = d by c by e by a", "d = aa")

    def test_hollow(self):
        for word in FOUR:
            self.check(Hollow, "a", f"a = {word} of nothing")
            self.check(Hollow, "a", f"a = {word} of ( bead red or nothing )")
            self.check(Hollow, "a", f"a = {word} of ( nothing by nothing )")
            for other in ("row", "bag", "choice"):
                self.check(Hollow, "a", f"a = {word} of {other} of bead red")
            self.check(Hollow, "b", "a = bead red", f"b = {word} of c", "c = nothing or a")

    def test_hollow_anywhere_in_the_rule(self):
        for text in ("{}", "{} or bead red", "bead red or {}", "{} by bead red", "bead red by {}",
                     "bead red by ( bead red or {} by bead blue )"):
            for word in FOUR:
                self.check(Hollow, "b", "a = bead red", "b = " + text.format(f"{word} of nothing"), "c = a")
        self.check(Hollow, "a", "a = row of ( bead red by bag of nothing )")
        self.check(Hollow, "a", "a = bag of ( bead red by choice of nothing )")
        self.check(Hollow, "a", "a = choice of ( bead red by ring of nothing )")
        self.check(Hollow, "a", "a = ring of ( bead red by row of nothing )")

    def test_hollow_only_by_another_class(self):
        self.check(Hollow, "a", "a = row of b", "b = c", "c = d by d", "d = row of bead red")
        self.check(Hollow, "c", "a = b", "b = bead red or c", "c = ring of d", "d = bead red or e", "e = nothing")
        self.check(Hollow, "a", "a = nothing or bead red by row of a")

    def test_the_first_class_with_a_hollow_part(self):
        self.check(Hollow, "b", "c = bead red", "b = row of nothing", "a = row of nothing")
        self.check(Hollow, "b", "b = row of a", "a = row of nothing")
        self.check(Hollow, "a", "b = a", "a = row of nothing")

    def test_a_ring_of_what_is_hollow_is_hollow(self):
        self.check(Hollow, "a", "a = row of b", "b = ring of nothing")
        self.check(Hollow, "a", "a = row of ring of b", "b = nothing")

    def test_a_class_without_figures_is_no_hollow_part(self):
        book = book_of("a = row of b or bag of b or choice of b or ring of b", "b = b by bead red")
        self.assertEqual(book.least("a"), 0)
        self.assertIsNone(book.least("b"))

    def test_no_more_rules_than_needed_are_refused(self):
        for word in FOUR:
            book_of(f"a = {word} of bead red")
            book_of(f"a = {word} of ( bead red by nothing )")
            book_of(f"a = {word} of ring of bead red")
            book_of(f"a = bead red by {word} of a")

    def test_in_their_order(self):
        twice, unknown, hollow, leaning = "a = bead red", "b = z", "c = row of nothing", "d = d"
        for rows in itertools.permutations((twice, twice, unknown, hollow, leaning)):
            self.check(Twice, "a", *rows)
        for rows in itertools.permutations((unknown, hollow, leaning)):
            self.check(NoClass, "z", *rows)
        for rows in itertools.permutations((twice, hollow, leaning)):
            self.check(Hollow, "c", *rows)
        self.check(Twice, "b", "b = row of y", "b = b", "a = z")
        self.check(NoClass, "y", "b = row of ( nothing by y )", "a = row of nothing")
        self.check(Hollow, "b", "a = a", "b = row of nothing or b")


class Rounds(unittest.TestCase):

    def check(self, names, *rows):
        """Refused with a round of just these names."""
        pairs = pairs_of(*rows)
        for _ in range(2):
            with self.assertRaises(FigureError, msg=rows) as caught:
                Book(pairs)
            self.assertIs(type(caught.exception), Round, rows)
            circle = caught.exception.circle
            self.assertIs(type(circle), list)
            self.assertEqual(sorted(circle), sorted(names), rows)
            caught.exception.circle.append("z")
        return circle[:-1]

    def test_one_class(self):
        self.check(["a"], "a = a")
        self.check(["a"], "a = a or bead red")
        self.check(["a"], "a = bead red or a")
        self.check(["a"], "a = a by nothing")
        self.check(["a"], "a = nothing by a")
        self.check(["a"], "a = row of bead red by ( a by bag of bead red )")
        self.check(["a"], "a = ring of ( a or bead red )")
        self.check(["a"], "a = ring of a")
        self.check(["b"], "a = b", "b = a by bead red or b by c", "c = nothing")

    def test_hollow_classes(self):
        self.check(["a"], "a = nothing or a")
        self.check(["a"], "a = a by a or nothing")
        self.check(["a"], "a = a by choice of bead red or nothing")

    def test_several_in_their_order(self):
        self.assertIn(self.check(["a", "b"], "a = b", "b = a"), (["a", "b"], ["b", "a"]))
        circle = self.check(["a", "b", "c"], "a = c", "c = b", "b = a")
        self.assertIn(circle, (["a", "c", "b"], ["c", "b", "a"], ["b", "a", "c"]))
        circle = self.check(["a", "b", "c"], "a = b by d", "b = bead blue or d by ring of c", "c = bead red or a",
                            "d = row of bead red")
        self.assertIn(circle, (["a", "b", "c"], ["b", "c", "a"], ["c", "a", "b"]))

    def test_eight(self):
        rows = [f"{name} = {other}" for name, other in zip("abcdefgh", "bcdefgha")]
        circle = self.check(list("abcdefgh"), *rows)
        at = circle.index("a")
        self.assertEqual(circle[at:] + circle[:at], list("abcdefgh"))

    def test_behind_classes_that_only_lead_there(self):
        self.check(["e"], "a = b or c", "b = c", "c = d", "d = e", "e = e")
        self.check(["d", "e"], "a = b or c", "b = c", "c = d", "d = bead red or e", "e = d by nothing")
        self.check(["c", "d"], "a = b", "b = bead red", "c = a or d", "d = b or c")

    def test_none_where_a_class_only_speaks_of_itself(self):
        book_of("a = bead red by a")
        book_of("a = a by bead red or nothing")
        book_of("a = bead red by b or nothing", "b = a")
        book_of("a = bead red by b", "b = a by a")

    def test_a_class_without_figures_is_not_hollow_beside_another(self):
        book = book_of("a = a by b", "b = b by bead red")
        self.assertEqual(book.leans("a"), [])
        self.assertIsNone(book.least("a"))


def places_of(rule, beside=()):
    """All Nameds of a shape, each with the other parts of the Bys on the way to it."""
    if rule[0] == "Named":
        return [(rule[1], beside)]
    if rule[0] in ("Nothing", "Bead"):
        return []
    found = []
    for at, part in enumerate(rule[1:], start=1):
        others = (rule[3 - at],) if rule[0] == "By" else ()
        found.extend(places_of(part, beside + others))
    return found


def hollow_shape(rule, hollows):
    """Whether a shape is hollow, where these classes are."""
    if rule[0] == "Named":
        return rule[1] in hollows
    if rule[0] == "Or":
        return any(hollow_shape(part, hollows) for part in rule[1:])
    if rule[0] in ("By", "Ring"):
        return all(hollow_shape(part, hollows) for part in rule[1:])
    return rule[0] != "Bead"


def within(rule):
    """A shape, and all shapes in it."""
    return [rule] + [inner for part in rule[1:] if isinstance(part, tuple) for inner in within(part)]


def sizes_of(rule, sizes, top):
    """The sizes, up to a top, of a shape's figures, where the classes have these."""
    if rule[0] == "Named":
        return sizes[rule[1]]
    if rule[0] == "Nothing":
        return {0}
    if rule[0] == "Bead":
        return {1}
    parts = [sizes_of(part, sizes, top) for part in rule[1:]]
    if rule[0] == "Or":
        return parts[0] | parts[1]
    if rule[0] == "By":
        return {one + other for one in parts[0] for other in parts[1] if one + other <= top}
    if rule[0] == "Choice":
        return {0} | parts[0]
    found = set(parts[0]) if rule[0] == "Ring" else {0}
    while True:
        more = found | {one + other for one in found for other in parts[0] if one + other <= top}
        if more == found:
            return found
        found = more


class Worked:
    """What a book of shapes is, worked out until nothing changes."""

    def __init__(self, rules, top=6):
        self.rules = rules
        self.hollows = self.settled(set(), lambda hollows: {
            name for name, rule in rules.items() if hollow_shape(rule, hollows)
        })
        self.leans = {
            name: {to for to, beside in places_of(rule) if all(hollow_shape(part, self.hollows) for part in beside)}
            for name, rule in rules.items()
        }
        self.reached = self.closed(self.leans)
        self.speaks = self.closed({name: {to for to, _ in places_of(rule)} for name, rule in rules.items()})
        self.sizes = self.settled({name: set() for name in rules}, lambda sizes: {
            name: sizes_of(rule, sizes, top) for name, rule in rules.items()
        })

    def settled(self, value, step):
        while step(value) != value:
            value = step(value)
        return value

    def closed(self, links):
        return self.settled(links, lambda far: {
            name: ones.union(*(far[one] for one in ones)) for name, ones in far.items()
        })

    def first_hollow(self):
        for name, rule in self.rules.items():
            for inner in within(rule):
                if inner[0] in ("Row", "Bag", "Choice", "Ring") and hollow_shape(inner[1], self.hollows):
                    return name
        return None

    def has_round(self):
        return any(name in far for name, far in self.reached.items())

    def has(self, name, kind):
        return any(inner[0] == kind for one in {name} | self.speaks[name] for inner in within(self.rules[one]))


class AllSmallBooks(unittest.TestCase):

    def check(self, pairs):
        worked = Worked({name: shape(rule) for name, rule in pairs})
        told = " ".join(f"{name} = {rule.told()};" for name, rule in pairs)
        try:
            book = Book(pairs)
        except Hollow as refusal:
            self.assertEqual(refusal.name, worked.first_hollow(), told)
            return
        except Round as refusal:
            self.assertIsNone(worked.first_hollow(), told)
            self.check_circle(refusal.circle, worked.leans, told)
            return
        self.assertIsNone(worked.first_hollow(), told)
        self.assertFalse(worked.has_round(), told)
        for name, _ in pairs:
            self.assertIs(book.hollow(name), name in worked.hollows, told)
            self.assertEqual(book.leans(name), sorted(worked.leans[name]), told)
            self.assertEqual(book.speaks(name), sorted(worked.speaks[name]), told)
            self.assertEqual(book.least(name), min(worked.sizes[name], default=None), told)
            self.assertIs(book.rings(name), worked.has(name, "Ring"), told)
            self.assertIs(book.choices(name), worked.has(name, "Choice"), told)

    def check_circle(self, circle, leans, told):
        self.assertGreaterEqual(len(circle), 1, told)
        self.assertEqual(len(set(circle)), len(circle), told)
        for name, to in zip(circle, circle[1:] + circle[:1]):
            self.assertIn(to, leans[name], told)

    def test_one_class(self):
        leaves = (Nothing, lambda: Bead("red"), lambda: Named("a"))
        for many in range(1, 6):
            for rule in rules_of(many, leaves):
                self.check([("a", rule)])

    def test_two_classes(self):
        leaves = (Nothing, lambda: Bead("red"), lambda: Named("a"), lambda: Named("b"))
        rules = [rule for many in range(1, 4) for rule in rules_of(many, leaves)]
        for one, other in itertools.product(rules, rules):
            self.check([("b", one), ("a", other)])

    def test_three_classes(self):
        a, b, c = Named("a"), Named("b"), Named("c")
        beads = [kind(Bead("red")) for kind in ONE_PART]
        rules = [Nothing(), Bead("red"), a, b, By(c, Or(b, a)), By(Bead("red"), a), By(Row(b), c), Or(b, c), Ring(a),
                 Or(By(a, b), Bead("blue")), Row(c), Bag(By(c, a)), Choice(Or(b, c))] + beads
        for three in itertools.product(rules, repeat=3):
            self.check(list(zip("cab", three)))
