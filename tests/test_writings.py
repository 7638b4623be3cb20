"""Writings shown as texts and read from them, and what is no writing's text (17)."""

import itertools
import re
import unittest

from figurebook.errors import FigureError, NoText
from figurebook.writings import figure_text, read_writing
from tests.written import BLUE, NOTHING, RED, deep, small_writings, writings_of

KEPT_BUT_THREE = ("bead", "or", "by", "row", "bag", "choice", "ring", "of")
MANY = (("row", "[", "]"), ("bag", "{", "}"), ("choice", "<", ">"), ("ring", "((", "))"))
CLOSING = (")", "]", "}", ">", "))")
HOLDING = ("left", "right", "pair", "row", "bag", "choice", "ring")


class Texts(unittest.TestCase):

    def check(self, writing, text):
        self.assertEqual(figure_text(writing), text)
        self.assertEqual(read_writing(text), writing)
        self.assertIs(type(read_writing(text)), tuple)

    def test_each_kind(self):
        self.check(NOTHING, "nothing")
        self.check(RED, "red")
        self.check(("bead", "z"), "z")
        self.check(("bead", "abcdefgh"), "abcdefgh")
        self.check(("left", RED), "left red")
        self.check(("right", NOTHING), "right nothing")
        self.check(("pair", RED, BLUE), "( red blue )")
        self.check(("pair", NOTHING, NOTHING), "( nothing nothing )")
        for kind, first, last in MANY:
            self.check((kind, ()), f"{first} {last}")
            self.check((kind, (RED,)), f"{first} red {last}")
            self.check((kind, (RED, BLUE)), f"{first} red blue {last}")
            self.check((kind, (RED, NOTHING, BLUE, RED)), f"{first} red nothing blue red {last}")

    def test_words_like_kept_ones_are_colours(self):
        for word in ("beads", "orb", "byre", "rows", "lefts", "rightly", "nothings", "off"):
            self.check(("bead", word), word)
            self.check(("pair", ("left", ("bead", word)), ("bead", word)), f"( left {word} {word} )")

    def test_each_within_each(self):
        inner = [NOTHING, RED, ("left", BLUE), ("pair", RED, NOTHING), ("row", ()), ("bag", (RED,)), ("choice", ()),
                 ("ring", (RED, BLUE))]
        for one, other in itertools.product(inner, repeat=2):
            first, second = figure_text(one), figure_text(other)
            self.check(("left", one), f"left {first}")
            self.check(("right", one), f"right {first}")
            self.check(("pair", one, other), f"( {first} {second} )")
            for kind, begin, end in MANY:
                self.check((kind, (one, other)), f"{begin} {first} {second} {end}")
                self.check((kind, (one,)), f"{begin} {first} {end}")

    def test_left_and_right_end_with_their_part(self):
        self.check(("left", ("right", ("left", RED))), "left right left red")
        self.check(("pair", ("left", ("right", RED)), ("right", BLUE)), "( left right red right blue )")
        self.check(("row", (("left", ("row", ())), ("right", RED), BLUE)), "[ left [ ] right red blue ]")
        self.check(("left", ("pair", RED, ("left", BLUE))), "left ( red left blue )")

    def test_a_ring_is_no_pair_of_pairs(self):
        self.check(("ring", (RED, BLUE)), "(( red blue ))")
        self.check(("pair", ("pair", RED, BLUE), ("pair", BLUE, RED)), "( ( red blue ) ( blue red ) )")
        self.check(("ring", (("ring", ()), ("pair", RED, RED))), "(( (( )) ( red red ) ))")

    def test_as_it_is_written(self):
        self.check(("bag", (BLUE, RED, NOTHING)), "{ blue red nothing }")
        self.check(("choice", (RED, RED)), "< red red >")
        self.check(("ring", (RED, BLUE)), "(( red blue ))")
        self.check(("ring", ()), "(( ))")

    def test_all_small_writings(self):
        texts = {}
        for writing in small_writings(5, ("red",)):
            text = figure_text(writing)
            self.assertEqual(read_writing(text), writing)
            self.assertEqual(texts.setdefault(text, writing), writing)

    def test_by_their_arguments_names(self):
        self.assertEqual(figure_text(figure=RED), "red")
        self.assertEqual(read_writing(text="red"), RED)

    def test_many_brackets_open_at_once(self):
        for many in (31, 120, 149):
            self.check(deep(many + 1, ("row",)), "[ " * many + "red" + " ]" * many)
            self.check(deep(many + 1, ("ring",)), "(( " * many + "red" + " ))" * many)
            self.check(deep(many, ("bag",), ("choice", ())), "{ " * (many - 1) + "< >" + " }" * (many - 1))
        self.check(deep(75, ("pair",)), "( nothing " * 74 + "red" + " )" * 74)

    def test_as_deep_as_told_figures_may_be(self):
        for many in (120, 240):
            for kinds in [(kind,) for kind in HOLDING] + [HOLDING, ("ring", "left", "pair")]:
                writing = deep(many, kinds)
                self.assertEqual(read_writing(figure_text(writing)), writing)
            self.check(deep(many, ("left",)), "left " * (many - 1) + "red")
            self.check(deep(many, ("choice",)), "< " * (many - 1) + "red" + " >" * (many - 1))

    def test_more_than_three_hundred_words(self):
        for kind, first, last in MANY:
            self.check((kind, (RED, BLUE) * 400), f"{first} " + "red blue " * 400 + last)
        writing, text = NOTHING, "nothing"
        for _ in range(10):
            writing, text = ("pair", writing, ("left", writing)), f"( {text} left {text} )"
        self.check(writing, text)


class Refused(unittest.TestCase):

    def check(self, text, at):
        for _ in range(2):
            with self.assertRaises(FigureError, msg=text) as caught:
                read_writing(text)
            self.assertIs(type(caught.exception), NoText, text)
            self.assertEqual(caught.exception.at, at, text)
            self.assertIs(type(caught.exception.at), int)

    def test_a_wrong_first_word(self):
        for word in CLOSING + KEPT_BUT_THREE + ("()", "[]", "(((", "1", "-", "~", "Red", "abcdefghi", "a" * 16, "re1"):
            self.check(word, 0)
            self.check(f"{word} red", 0)

    def test_a_kept_word_but_three(self):
        for word in KEPT_BUT_THREE:
            self.check(f"left {word}", 1)
            self.check(f"( {word}", 1)
            self.check(f"( red {word} )", 2)
            for _, first, last in MANY:
                self.check(f"{first} {word} {last}", 1)
                self.check(f"{first} red {word} red", 2)

    def test_a_rule_is_no_writing(self):
        self.check("bead red", 0)
        self.check("row of red", 0)
        self.check("red or blue", 1)

    def test_left_and_right_need_a_part(self):
        for word in ("left", "right"):
            self.check(word, 1)
            self.check(f"{word} {word}", 2)
            self.check(f"{word} nothing red", 2)
            for last in CLOSING:
                self.check(f"{word} {last}", 1)
            self.check(f"( {word} )", 2)
            self.check(f"[ {word} ]", 2)
            self.check(f"( red {word} )", 3)
            self.check(f"( {word} red )", 3)

    def test_a_bracket_of_another_kind(self):
        for kind, first, last in MANY + (("pair", "( red blue", ")"),):
            many = len(first.split(" "))
            for other in CLOSING:
                if other != last:
                    self.check(f"{first} {other}", many)
                    if kind != "pair":
                        self.check(f"{first} red {other}", many + 1)
                    self.check(f"[ {first} {last} {first} {other} ]", 2 + 2 * many)

    def test_a_pair_has_two_parts(self):
        self.check("( )", 1)
        self.check("( red )", 2)
        self.check("( red red red", 3)
        self.check("( red red red )", 3)
        for third in ("nothing", "left", "right", "(", "[", "{", "<", "((", "blue", "]", "}", ">", "))", "or", ""):
            self.check(f"( red red {third}", 3)
            self.check(f"[ ( red red {third}", 4)
        self.check("( ( red red ) )", 5)
        self.check("( ( red ) red )", 3)
        self.check("( [ ] left blue nothing )", 5)
        self.check("( ( red red red ) red )", 4)
        self.check("( red left right", 4)

    def test_a_word_behind_a_whole_writing(self):
        for whole in ("nothing", "red", "left red", "( red red )", "[ ]", "{ red }", "< >", "(( red ))"):
            many = len(whole.split(" "))
            for word in ("red", "nothing", "left", "(", "((", "[", "or", "", "~") + CLOSING:
                self.check(f"{whole} {word}", many)
                self.check(f"{whole} {word} red", many)

    def test_ends_too_early(self):
        for text in ("(", "[", "{", "<", "((", "left", "right", "( red", "( red blue", "[ red", "{ red blue", "< red",
                     "(( red", "[ left", "( left red", "left (", "left [", "[ [ ]", "(( ( red blue )",
                     "( red (", "( red left", "{ < > [ ]"):
            self.check(text, len(text.split(" ")))

    def test_words_without_signs(self):
        self.check("", 0)
        self.check(" ", 0)
        self.check("   ", 0)
        self.check(" red", 0)
        self.check("red ", 1)
        self.check("red  ", 1)
        self.check("left  red", 1)
        self.check("left ", 1)
        self.check("[  ]", 1)
        self.check("[ red  blue ]", 2)
        self.check("[ red  ]", 2)
        self.check("[ ] ", 2)
        self.check("(  red blue )", 1)
        self.check("( red  blue )", 2)
        self.check("( red blue  )", 3)
        self.check(" (( ))", 0)

    def test_signs_that_stand_together(self):
        self.check("(red blue)", 0)
        self.check("[red]", 0)
        self.check("[ red]", 1)
        self.check("( ( red blue ))", 4)
        self.check("(( red ) )", 2)
        self.check("( ( red blue ) red ))", 6)
        self.check("red\tblue", 0)
        self.check("red\n", 0)

    def test_the_first_one_of_several(self):
        self.check("[ or or ) red", 1)
        self.check("( red ) )", 2)
        self.check("red or )", 1)

    def test_long_texts(self):
        self.check("[ " * 299 + "[", 300)
        self.check("left " * 299 + "]", 299)
        self.check("( " * 298 + "red )", 299)
        self.check("(( " * 100 + "red" + " ))" * 99, 200)
        self.check("(( " * 100 + "red" + " ))" * 101, 201)
        self.check("< " + "red " * 290 + "]", 291)

    def test_read_behind_a_refusal(self):
        self.check("( red )", 2)
        self.assertEqual(read_writing("( red red )"), ("pair", RED, RED))


# A writing, with all whole writings in it put as W; and what can stand ahead of further words.
WHOLE = re.compile(r"(?<= )(nothing|red|left W|right W|\( W W \)|\[ (W )*\]|{ (W )*}|< (W )*>|\(\( (W )*\)\))(?= )")
BEGUN = re.compile(r"(left |right |\( (W )?|\[ (W )*|{ (W )*|< (W )*|\(\( (W )*)*(\( W W )?|W ")


def taken_in(words):
    """Words with each whole writing of the colour red put as W."""
    text = " " + "".join(word + " " for word in words)
    while True:
        less = WHOLE.sub("W", text)
        if less == text:
            return text[1:]
        text = less


def fault_of(words):
    """The number of the first word that cannot stand, or of the words where they end too early; None of a writing."""
    for at in range(len(words)):
        if not BEGUN.fullmatch(taken_in(words[:at + 1])):
            return at
    return None if taken_in(words) == "W " else len(words)


class AllShortTexts(unittest.TestCase):

    def check(self, words):
        text, fault = " ".join(words), fault_of(words)
        try:
            writing = read_writing(text)
        except NoText as refusal:
            self.assertEqual(refusal.at, fault, text)
            return
        self.assertIsNone(fault, text)
        self.assertEqual(figure_text(writing), text)

    def test_of_up_to_four_words(self):
        signs = ("nothing", "red", "left", "(", ")", "[", "]", "((", "))", "<", "}", "or", "")
        for many in range(1, 5):
            for words in itertools.product(signs, repeat=many):
                self.check(words)

    def test_longer_ones_with_one_word_changed(self):
        signs = ("nothing", "red", "right", "(", ")", "[", "]", "{", ">", "((", "))", "of", "")
        for writing in writings_of(3, ("red",)):
            words = tuple(figure_text(writing).split(" "))
            self.check(words)
            for at in range(len(words) + 1):
                if len(words) > 1:
                    self.check(words[:at] + words[at + 1:])
                for sign in signs:
                    self.check(words[:at] + (sign,) + words[at + 1:])
                    self.check(words[:at] + (sign,) + words[at:])
