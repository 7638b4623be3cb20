"""Rules: their values, texts (7) and names (8), and that they stay as they are (2)."""

import unittest

from figurebook.errors import NoText
from figurebook.reading import read_rule
from figurebook.rules import Bag, Bead, By, Choice, Named, Nothing, Or, Ring, Row, Rule
from tests.shapes import NINE, ONE_PART, TWO_PARTS, rules_of, shape

LEAVES = (Nothing, lambda: Bead("red"), lambda: Named("a"))


def without_brackets(words, first):
    """The words without the bracket at first and the one that closes it."""
    is_open = 0
    for last in range(first, len(words)):
        is_open += {"(": 1, ")": -1}.get(words[last], 0)
        if is_open == 0:
            return words[:first] + words[first + 1:last] + words[last + 1:]
    raise AssertionError("a bracket that is not closed")


class Kinds(unittest.TestCase):

    def test_nine_under_rule_and_none_under_another(self):
        self.assertEqual(len(set(NINE)), 9)
        for kind in NINE:
            self.assertTrue(issubclass(kind, Rule))
            self.assertIsNot(kind, Rule)
            for other in NINE:
                if other is not kind:
                    self.assertFalse(issubclass(kind, other), (kind, other))

    def test_values(self):
        one, other = Bead("red"), Named("tree")
        self.assertEqual(one.colour, "red")
        self.assertEqual(other.name, "tree")
        for kind in TWO_PARTS:
            made = kind(one, other)
            self.assertIs(made.one, one)
            self.assertIs(made.other, other)
        for kind in ONE_PART:
            self.assertIs(kind(one).part, one)

    def test_arguments_by_their_names(self):
        self.assertEqual(shape(Bead(colour="red")), ("Bead", "red"))
        self.assertEqual(shape(Named(name="a")), ("Named", "a"))
        for kind in TWO_PARTS:
            made = kind(other=Named("b"), one=Named("a"))
            self.assertEqual(shape(made), (kind.__name__, ("Named", "a"), ("Named", "b")))
        for kind in ONE_PART:
            self.assertEqual(shape(kind(part=Nothing())), (kind.__name__, ("Nothing",)))


class Told(unittest.TestCase):

    def check(self, rule, text):
        self.assertEqual(rule.told(), text)
        again = read_rule(text)
        self.assertEqual(shape(again), shape(rule))
        self.assertEqual(again.told(), text)

    def test_each_kind(self):
        a, b = Named("a"), Named("b")
        self.check(Nothing(), "nothing")
        self.check(Bead("red"), "bead red")
        self.check(a, "a")
        self.check(Or(a, b), "a or b")
        self.check(By(a, b), "a by b")
        self.check(Row(a), "row of a")
        self.check(Bag(Bead("red")), "bag of bead red")
        self.check(Choice(Nothing()), "choice of nothing")
        self.check(Ring(a), "ring of a")

    def test_or_within_by(self):
        a, b, c = Named("a"), Named("b"), Named("c")
        self.check(By(Or(a, b), c), "( a or b ) by c")
        self.check(By(a, Or(b, c)), "a by ( b or c )")
        self.check(By(Or(a, b), Or(b, c)), "( a or b ) by ( b or c )")

    def test_by_within_by(self):
        a, b, c = Named("a"), Named("b"), Named("c")
        self.check(By(By(a, b), c), "a by b by c")
        self.check(By(a, By(b, c)), "a by ( b by c )")
        self.check(By(By(a, b), By(b, c)), "a by b by ( b by c )")

    def test_or_within_or(self):
        a, b, c = Named("a"), Named("b"), Named("c")
        self.check(Or(Or(a, b), c), "a or b or c")
        self.check(Or(a, Or(b, c)), "a or ( b or c )")
        self.check(Or(Or(a, b), Or(b, c)), "a or b or ( b or c )")

    def test_by_within_or(self):
        a, b, c = Named("a"), Named("b"), Named("c")
        self.check(Or(By(a, b), c), "a by b or c")
        self.check(Or(a, By(b, c)), "a or b by c")

    def test_or_and_by_within_the_four(self):
        a, b = Named("a"), Named("b")
        for kind, word in ((Row, "row"), (Bag, "bag"), (Choice, "choice"), (Ring, "ring")):
            self.check(kind(Or(a, b)), f"{word} of ( a or b )")
            self.check(kind(By(a, b)), f"{word} of ( a by b )")

    def test_the_four_need_no_brackets(self):
        a, b = Named("a"), Named("b")
        for kind, word in ((Row, "row"), (Bag, "bag"), (Choice, "choice"), (Ring, "ring")):
            for outer, around in ((Row, "row"), (Bag, "bag"), (Choice, "choice"), (Ring, "ring")):
                self.check(outer(kind(a)), f"{around} of {word} of a")
            self.check(Or(kind(a), kind(b)), f"{word} of a or {word} of b")
            self.check(By(kind(a), kind(b)), f"{word} of a by {word} of b")

    def test_all_small_rules_are_read_to_like_ones(self):
        texts = {}
        for many in range(1, 5):
            for rule in rules_of(many, LEAVES):
                text = rule.told()
                self.check(rule, text)
                self.assertEqual(texts.setdefault(text, shape(rule)), shape(rule))

    def test_no_brackets_that_need_not_stand(self):
        for rule in rules_of(5, (Nothing, lambda: Named("a"))):
            words = rule.told().split(" ")
            for first, word in enumerate(words):
                if word == "(":
                    bare = " ".join(without_brackets(words, first))
                    try:
                        self.assertNotEqual(shape(read_rule(bare)), shape(rule), rule.told())
                    except NoText:
                        pass

    def test_more_brackets_than_needed(self):
        for text, told in (
            ("( a )", "a"), ("( ( bead red ) )", "bead red"), ("( a or b ) or c", "a or b or c"),
            ("( a by b ) by c", "a by b by c"), ("( a by b ) or ( c by d )", "a by b or c by d"),
            ("row of ( a )", "row of a"), ("row of ( bag of ( a ) )", "row of bag of a"),
            ("( ring of a ) by ( nothing )", "ring of a by nothing"),
            ("( a or ( ( b or c ) ) )", "a or ( b or c )"), ("( ( a or b ) ) by ( c )", "( a or b ) by c"),
            ("choice of ( ( a by b ) )", "choice of ( a by b )"),
        ):
            with self.subTest(text=text):
                rule = read_rule(text)
                self.assertEqual(rule.told(), told)
                self.check(rule, told)

    def test_deep_rules(self):
        deep = Named("a")
        text = "a"
        for step in range(29):
            deep, text = (Or(Named("b"), deep), f"b or ( {text} )") if step else (Or(Named("b"), deep), "b or a")
        self.check(deep, text)
        held = Bead("red")
        for _ in range(29):
            held = Choice(held)
        self.check(held, "choice of " * 29 + "bead red")


class Names(unittest.TestCase):

    def test_each_once_in_the_order_of_the_alphabet(self):
        rule = read_rule("tree or b by row of ( tree by a ) or ring of choice of bag of ( ab or b or aa )")
        self.assertEqual(rule.names(), ["a", "aa", "ab", "b", "tree"])

    def test_each_kind(self):
        a, b = Named("a"), Named("b")
        self.assertEqual(Nothing().names(), [])
        self.assertEqual(Bead("red").names(), [])
        self.assertEqual(a.names(), ["a"])
        for kind in TWO_PARTS:
            self.assertEqual(kind(b, a).names(), ["a", "b"])
            self.assertEqual(kind(a, b).names(), ["a", "b"])
            self.assertEqual(kind(a, Named("a")).names(), ["a"])
        for kind in ONE_PART:
            self.assertEqual(kind(Or(b, a)).names(), ["a", "b"])
            self.assertEqual(kind(Bead("red")).names(), [])

    def test_a_colour_is_no_name(self):
        self.assertEqual(read_rule("bead a or b by bead c").names(), ["b"])
        self.assertEqual(read_rule("bead a by a").names(), ["a"])

    def test_all_thirty_names_of_a_long_rule(self):
        words = [f"x{chr(97 + at // 26)}{chr(97 + at % 26)}" for at in range(30)]
        self.assertEqual(read_rule(" or ".join(reversed(words))).names(), words)

    def test_the_told_list_is_the_askers_own(self):
        for rule in (Nothing(), Bead("a"), Named("a"), Or(Named("a"), Named("b")), Row(Named("a"))):
            told = rule.names()
            self.assertIs(type(told), list)
            before = list(told)
            told.append("z")
            told.reverse()
            self.assertEqual(rule.names(), before)
            again = rule.names()
            again.clear()
            self.assertEqual(told, ["z"] + before[::-1])

    def test_a_part_is_not_touched_by_the_list_of_the_whole(self):
        part = Named("a")
        for whole in (Row(part), Or(part, Nothing()), By(Nothing(), part)):
            whole.names().append("z")
            self.assertEqual(part.names(), ["a"])
            self.assertEqual(whole.names(), ["a"])


class Unchanged(unittest.TestCase):

    def test_asking_changes_nothing(self):
        rule = read_rule("row of ( a or bead red ) by ( b by nothing )")
        before = shape(rule)
        told, names = rule.told(), rule.names()
        for _ in range(3):
            self.assertEqual((rule.told(), rule.names()), (told, names))
        self.assertEqual(shape(rule), before)

    def test_being_made_a_part_changes_nothing(self):
        part = Or(Named("b"), Bead("a"))
        before = shape(part)
        wholes = [Or(part, part), By(part, part)] + [kind(part) for kind in ONE_PART]
        for whole in wholes:
            whole.told()
            whole.names()
        self.assertEqual(shape(part), before)
        self.assertEqual(part.told(), "b or bead a")
        self.assertEqual(part.names(), ["b"])
