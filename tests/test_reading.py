"""Words (4), texts read to rules (5), and what is no rule's text (6)."""

import itertools
import string
import unittest

from figurebook.errors import NoText
from figurebook.reading import is_word, read_rule
from figurebook.rules import Bag, Bead, By, Choice, Named, Nothing, Or, Ring, Row
from tests.shapes import shape

KEPT = ("nothing", "bead", "or", "by", "row", "bag", "choice", "ring", "of", "left", "right")
FOUR = (("row", Row), ("bag", Bag), ("choice", Choice), ("ring", Ring))


class IsWord(unittest.TestCase):

    def test_one_letter_to_eight(self):
        for letter in string.ascii_lowercase:
            for many in range(1, 9):
                self.assertIs(is_word(letter * many), True)
        self.assertIs(is_word("abcdefgh"), True)
        self.assertIs(is_word("stuvwxyz"), True)

    def test_like_a_kept_word_but_none(self):
        for word in ("nothings", "noth", "not", "beads", "bea", "orb", "o", "b", "byre", "rows", "arrow", "bags", "ba",
                     "choices", "choic", "rings", "string", "off", "oft", "lefty", "lef", "rights", "brigh", "orby",
                     "oror", "byby", "rowof", "sob"):
            with self.subTest(word=word):
                self.assertIs(is_word(word), True)

    def test_kept_words(self):
        for word in KEPT:
            with self.subTest(word=word):
                self.assertIs(is_word(word), False)

    def test_without_signs_and_too_long(self):
        self.assertIs(is_word(""), False)
        for many in (9, 10, 16, 17, 300):
            self.assertIs(is_word("a" * many), False)
        self.assertIs(is_word("abcdefghi"), False)

    def test_another_sign_at_any_place(self):
        others = [chr(code) for code in range(32, 127) if chr(code) not in string.ascii_lowercase]
        for sign in others + ["\n", "\t", "\u00e4", "\u00df", "\u03b1", "\u0661"]:
            for many in (1, 2, 3, 8):
                for at in range(many):
                    word = "a" * at + sign + "a" * (many - at - 1)
                    self.assertIs(is_word(word), False, repr(word))

    def test_great_letters(self):
        for word in ("A", "Red", "reD", "rEd", "RED", "Or", "BY", "Nothing"):
            self.assertIs(is_word(word), False)


class ReadRule(unittest.TestCase):

    def check(self, text, rule):
        self.assertEqual(shape(read_rule(text)), shape(rule), text)

    def test_each_kind(self):
        a, b = Named("a"), Named("b")
        self.check("nothing", Nothing())
        self.check("bead red", Bead("red"))
        self.check("a", a)
        self.check("a or b", Or(a, b))
        self.check("a by b", By(a, b))
        for word, kind in FOUR:
            self.check(f"{word} of a", kind(a))
            self.check(f"{word} of nothing", kind(Nothing()))
            self.check(f"{word} of bead red", kind(Bead("red")))

    def test_the_values_of_what_is_read(self):
        rule = read_rule("bead red by row of tree or nothing")
        self.assertIs(type(rule), Or)
        self.assertIs(type(rule.other), Nothing)
        self.assertIs(type(rule.one), By)
        self.assertIs(type(rule.one.one), Bead)
        self.assertEqual(rule.one.one.colour, "red")
        self.assertIs(type(rule.one.other), Row)
        self.assertIs(type(rule.one.other.part), Named)
        self.assertEqual(rule.one.other.part.name, "tree")

    def test_taken_from_the_left(self):
        a, b, c, d = Named("a"), Named("b"), Named("c"), Named("d")
        self.check("a or b or c", Or(Or(a, b), c))
        self.check("a or b or c or d", Or(Or(Or(a, b), c), d))
        self.check("a by b by c", By(By(a, b), c))
        self.check("a by b by c by d", By(By(By(a, b), c), d))

    def test_by_binds_closer_than_or(self):
        a, b, c, d = Named("a"), Named("b"), Named("c"), Named("d")
        self.check("a by b or c", Or(By(a, b), c))
        self.check("a or b by c", Or(a, By(b, c)))
        self.check("a by b or c by d", Or(By(a, b), By(c, d)))
        self.check("a or b by c or d", Or(Or(a, By(b, c)), d))
        self.check("a or b by c by d", Or(a, By(By(b, c), d)))

    def test_the_four_take_one_factor(self):
        a, b, c = Named("a"), Named("b"), Named("c")
        for word, kind in FOUR:
            self.check(f"{word} of a or b", Or(kind(a), b))
            self.check(f"{word} of a by b", By(kind(a), b))
            self.check(f"a by {word} of b by c", By(By(a, kind(b)), c))
            self.check(f"{word} of ( a or b )", kind(Or(a, b)))
            self.check(f"{word} of ( a by b ) by c", By(kind(By(a, b)), c))

    def test_the_four_of_one_another(self):
        for (one, outer), (other, inner) in itertools.product(FOUR, FOUR):
            self.check(f"{one} of {other} of a", outer(inner(Named("a"))))
            self.check(f"{one} of ( {other} of a )", outer(inner(Named("a"))))
        self.check("row of bag of choice of ring of bead red", Row(Bag(Choice(Ring(Bead("red"))))))

    def test_brackets(self):
        a, b, c = Named("a"), Named("b"), Named("c")
        self.check("( a or b ) by c", By(Or(a, b), c))
        self.check("a by ( b or c )", By(a, Or(b, c)))
        self.check("a or ( b or c )", Or(a, Or(b, c)))
        self.check("a by ( b by c )", By(a, By(b, c)))

    def test_brackets_that_need_not_stand(self):
        a, b, c = Named("a"), Named("b"), Named("c")
        self.check("( a )", a)
        self.check("( ( nothing ) )", Nothing())
        self.check("( a or b ) or c", Or(Or(a, b), c))
        self.check("( a by b ) or ( c )", Or(By(a, b), c))
        self.check("row of ( ( a ) )", Row(a))
        self.check("( row of a )", Row(a))

    def test_thirty_brackets_open_at_once(self):
        self.check("( " * 30 + "a" + " )" * 30, Named("a"))
        rule = Named("a")
        for _ in range(29):
            rule = Row(rule)
        self.check("( " + "row of ( " * 29 + "a" + " )" * 30, rule)
        rule = By(Named("a"), Named("b"))
        for _ in range(28):
            rule = By(Named("c"), rule)
        self.check("( ( " + "c by ( " * 28 + "a by b" + " )" * 30, rule)

    def test_many_brackets_one_behind_the_other(self):
        rule = Named("a")
        for _ in range(29):
            rule = Or(rule, Named("a"))
        self.check(" or ".join(["( a )"] * 30), rule)

    def test_sixty_rules(self):
        rule = Nothing()
        for at in range(29):
            rule = (Or if at < 14 else By)(rule, Ring(Bead("red")) if at == 28 else Named("a"))
        text = "( nothing" + " or a" * 14 + " )" + " by a" * 14 + " by ring of bead red"
        self.check(text, rule)
        self.assertEqual(read_rule(text).told(), text)

    def test_thirty_within_one_another(self):
        rule = Bead("red")
        for at in range(29):
            rule = FOUR[at % 4][1](rule)
        self.check(" of ".join(FOUR[at % 4][0] for at in reversed(range(29))) + " of bead red", rule)
        rule = Named("a")
        for _ in range(29):
            rule = By(rule, Named("b"))
        self.check("a" + " by b" * 29, rule)

    def test_names_and_colours_like_kept_words(self):
        self.check("orb or byre", Or(Named("orb"), Named("byre")))
        self.check("rows by bead bags", By(Named("rows"), Bead("bags")))
        self.check("nothings", Named("nothings"))
        self.check("bead beads", Bead("beads"))

    def test_one_text_is_read_anew_each_time(self):
        text = "a or bead red"
        one, other = read_rule(text), read_rule(text)
        self.assertEqual(shape(one), shape(other))
        self.assertEqual(text, "a or bead red")


def all_texts(longest, leaves):
    """All rules' texts up to so many words over some leaves and the word row, as sets of tuples by their lengths."""
    factors = {many: set() for many in range(longest + 1)}
    terms = {many: set() for many in range(longest + 1)}
    rules = {many: set() for many in range(longest + 1)}
    for many in range(1, longest + 1):
        factors[many] |= {leaf for leaf in leaves if len(leaf) == many}
        if many > 2:
            factors[many] |= {("row", "of") + part for part in factors[many - 2]}
            factors[many] |= {("(",) + rule + (")",) for rule in rules[many - 2]}
        for whole, part, word in ((terms, factors, "by"), (rules, terms, "or")):
            whole[many] |= part[many]
            for first in range(1, many - 1):
                for one, other in itertools.product(whole[first], part[many - 1 - first]):
                    whole[many].add(one + (word,) + other)
    return set().union(*rules.values())


class Refused(unittest.TestCase):

    def check(self, text, at):
        with self.assertRaises(NoText, msg=text) as caught:
            read_rule(text)
        self.assertEqual(caught.exception.at, at, text)
        self.assertIs(type(caught.exception.at), int)

    def test_a_wrong_first_word(self):
        for word in ("or", "by", "of", "left", "right", ")", "[", "{", "((", "1", "-", "~"):
            self.check(word, 0)
            self.check(f"{word} a", 0)

    def test_a_kept_word_as_a_name_or_colour(self):
        for word in KEPT:
            self.check(f"bead {word}", 1)
            self.check(f"bead {word} or", 1)
        for word in ("or", "by", "of", "left", "right"):
            self.check(f"a or {word}", 2)
            self.check(f"a by {word} b", 2)
            self.check(f"( {word} )", 1)
            self.check(f"row of {word}", 2)

    def test_a_bracket_as_a_colour(self):
        self.check("bead ( red )", 1)
        self.check("bead )", 1)

    def test_a_missing_of(self):
        for word, _ in FOUR:
            self.check(f"{word} a", 1)
            self.check(f"{word} ( a )", 1)
            self.check(f"{word} {word} of a", 1)
            self.check(f"a by {word} bead red", 3)
            self.check(f"{word} of {word} a", 3)
            self.check(f"{word} of of a", 2)

    def test_a_closing_bracket_too_many(self):
        self.check("a )", 1)
        self.check("( a ) )", 3)
        self.check("a or b ) or", 3)
        self.check("( a or b ) by c )", 7)

    def test_an_empty_bracket(self):
        self.check("( )", 1)
        self.check("a or ( )", 3)
        self.check("row of ( )", 3)

    def test_a_word_behind_a_whole_rule(self):
        self.check("a b", 1)
        self.check("nothing nothing", 1)
        self.check("bead red blue", 2)
        self.check("( a ) b", 3)
        self.check("( a b )", 2)
        self.check("a (", 1)
        self.check("a of b", 1)
        self.check("row of a bead red", 3)
        self.check("a or b row of c", 3)

    def test_a_bad_word(self):
        for word in ("abcdefghi", "a" * 16, "Red", "reD", "red1", "re-d", "(red", "red)", "~", "OR", "()"):
            self.check(word, 0)
            self.check(f"bead {word}", 1)
            self.check(f"a or {word} or", 2)
            self.check(f"( a {word}", 2)
            self.check(f"a {word} b", 1)
            self.check(f"row {word} a", 1)

    def test_the_first_one_of_several(self):
        self.check("a or or b by by", 2)
        self.check("row row bead", 1)
        self.check("( bead or ) )", 2)

    def test_ends_too_early(self):
        for text in ("bead", "row", "bag", "choice", "ring", "row of", "bag of", "choice of", "ring of", "(", "( a",
                     "( ( a )", "a or", "a by", "( a or", "a or b by", "a or bead", "row of (", "row of bag",
                     "row of bag of", "( row of a by bead"):
            self.check(text, len(text.split(" ")))

    def test_words_without_signs(self):
        self.check("", 0)
        self.check(" ", 0)
        self.check("   ", 0)
        self.check(" a", 0)
        self.check("a ", 1)
        self.check("a  ", 1)
        self.check("a  or b", 1)
        self.check("a or  b", 2)
        self.check("a or b ", 3)
        self.check("bead  red", 1)
        self.check("bead ", 1)
        self.check("row of ", 2)
        self.check("row  of a", 1)
        self.check("( a  )", 2)
        self.check("(  a )", 1)

    def test_another_sign_parts_no_words(self):
        self.check("a\tor b", 0)
        self.check("a or\nb", 1)

    def test_long_texts(self):
        self.check("row of " * 149 + "row", 299)
        self.check("row of " * 149 + "row of", 300)
        self.check("ring of " * 149 + "or b", 298)
        self.check("a or " * 149 + "a by", 300)
        self.check("a or " * 149 + "or b", 298)
        self.check("( " * 30 + "a" + " )" * 31, 61)
        self.check("( " * 30 + "a" + " )" * 29, 60)
        self.check("( " * 30 + "row of " * 134 + ")", 298)
        self.check("( row of row of row of " * 30 + "bead" + " )" * 30, 211)
        self.check("( a by " * 30 + "of", 90)

    def test_a_refusal_can_be_asked_again(self):
        for _ in range(2):
            self.check("a or or", 2)
        self.assertEqual(read_rule("a or b").told(), "a or b")

    def test_all_short_texts(self):
        leaves = (("nothing",), ("bead", "red"), ("red",))
        signs = ("nothing", "bead", "or", "by", "row", "of", "red", "(", ")", "", "left")
        # Whatever can go on behind four words is ended within nine: ( ( ( ( red ) ) ) )
        texts = all_texts(9, leaves)
        begun = {text[:many] for text in texts for many in range(len(text) + 1)}
        for many in range(1, 5):
            for words in itertools.product(signs, repeat=many):
                if words in texts:
                    read_rule(" ".join(words))
                else:
                    wrong = [at for at in range(many) if words[:at + 1] not in begun]
                    self.check(" ".join(words), wrong[0] if wrong else many)
