"""Steps walked (32), ways from one writing to another, and the looker (33)."""

import itertools
import random
import unittest

from figurebook.errors import FigureError, NoStep
from figurebook.figures import part_at, plain
from figurebook.papers import leads, walked, way
from figurebook.writings import figure_text, read_writing
from tests.written import BLUE, NOTHING, RED, deep, led_to, parts_of, paths_of, plain_told, put_at, small_writings, stepped

MOST_STEPS = 10000


def after_step(writing, step):
    """What a step makes of a writing, as the document tells it, or None where it does not fit."""
    word, path, i = step
    if path not in paths_of(writing):
        return None
    kind, parts = part_at(writing, path)[0], list(parts_of(part_at(writing, path)))
    if word == "swap" and kind in ("bag", "choice") and i in range(len(parts) - 1):
        parts[i], parts[i + 1] = parts[i + 1], parts[i]
    elif word == "turn" and kind == "ring" and i in range(len(parts)):
        parts = parts[i:] + parts[:i]
    else:
        return None
    return put_at(writing, path, (kind, tuple(parts)))


def after_steps(writing, steps):
    for step in steps:
        writing = writing and after_step(writing, step)
    return writing


def shaken(writing, chance):
    """The writing with all its bags and choices poured and its rings begun by chance."""
    parts = [shaken(part, chance) for part in parts_of(writing)]
    if writing[0] in ("bag", "choice"):
        chance.shuffle(parts)
    if writing[0] == "ring" and parts:
        start = chance.randrange(len(parts))
        parts = parts[start:] + parts[:start]
    if writing[0] in ("nothing", "bead"):
        return writing
    return (writing[0], tuple(parts)) if writing[0] in ("row", "bag", "choice", "ring") else (writing[0], *parts)


def grown(many, chance):
    """A writing of so many tuples that are figures, its kinds and colours by chance."""
    if many == 1:
        return chance.choice([RED, BLUE, NOTHING, ("bag", ()), ("ring", ())])
    kind = chance.choice(["left", "pair", "row", "bag", "bag", "choice", "ring", "ring"])
    if kind == "left" or many == 2:
        return ("left", grown(many - 1, chance))
    if kind == "pair":
        first = chance.randrange(1, many - 1)
        return ("pair", grown(first, chance), grown(many - 1 - first, chance))
    left, parts = many - 1, []
    while left:
        size = chance.randrange(1, min(left, 1 + many // 2) + 1)
        times = chance.choice([1, 1, 2, 3])
        part = grown(size, chance)
        while times and size <= left:
            parts.append(part)
            left -= size
            times -= 1
    return (kind, tuple(parts))


class Walked(unittest.TestCase):

    def check(self, text, steps, made):
        writing = read_writing(text)
        before = list(steps)
        told = walked(writing, steps)
        self.assertEqual(figure_text(told), made)
        self.assertIs(type(told), tuple)
        self.assertEqual(steps, before)
        self.assertEqual(figure_text(writing), text)

    def test_no_steps(self):
        for text in ("nothing", "red", "{ red blue }", "(( ))"):
            self.check(text, [], text)

    def test_swaps(self):
        self.check("{ red blue }", [("swap", (), 0)], "{ blue red }")
        self.check("< red blue green >", [("swap", (), 1)], "< red green blue >")
        self.check("{ red blue green }", [("swap", (), 0), ("swap", (), 1)], "{ blue green red }")
        self.check("{ red blue green }", [("swap", (), 1), ("swap", (), 0)], "{ green red blue }")
        self.check("{ red red }", [("swap", (), 0), ("swap", (), 0)], "{ red red }")

    def test_turns(self):
        self.check("(( red blue green ))", [("turn", (), 0)], "(( red blue green ))")
        self.check("(( red blue green ))", [("turn", (), 1)], "(( blue green red ))")
        self.check("(( red blue green ))", [("turn", (), 2)], "(( green red blue ))")
        self.check("(( red blue green ))", [("turn", (), 1), ("turn", (), 1)], "(( green red blue ))")
        self.check("(( red ))", [("turn", (), 0)], "(( red ))")

    def test_at_paths(self):
        self.check("[ red { red blue } ]", [("swap", (1,), 0)], "[ red { blue red } ]")
        self.check("( left < red blue > (( red blue )) )", [("swap", (0, 0), 0), ("turn", (1,), 1)],
                   "( left < blue red > (( blue red )) )")
        self.check("right { (( red blue )) { a b } }", [("turn", (0, 0), 1), ("swap", (0, 1), 0)],
                   "right { (( blue red )) { b a } }")

    def test_in_what_the_steps_ahead_made(self):
        self.check("{ { a b } (( c d )) }", [("swap", (), 0), ("swap", (1,), 0), ("turn", (0,), 1)], "{ (( d c )) { b a } }")
        self.check("(( { a b } red blue ))", [("turn", (), 1), ("swap", (2,), 0), ("turn", (), 2)], "(( { b a } red blue ))")

    def test_all_single_steps_of_small_writings(self):
        for writing in small_writings(3) + small_writings(4)[::5]:
            made = []
            for path in paths_of(writing) + [(7,), (-1,), (0, 0, 0, 0)]:
                for word, i in itertools.product(("swap", "turn"), range(-2, 5)):
                    step = (word, path, i)
                    asked = after_step(writing, step)
                    if asked is None:
                        with self.assertRaises(NoStep) as caught:
                            walked(writing, [step])
                        self.assertEqual(caught.exception.at, 0)
                    else:
                        made.append(asked)
                        self.assertEqual(walked(writing, [step]), asked)
            self.assertEqual(sorted(map(repr, made)), sorted(map(repr, stepped(writing))))

    def test_many_within_one_another(self):
        writing = deep(239, ("bag", "ring", "left", "pair"), ("ring", (RED, BLUE)))
        path = ()
        while part_at(writing, path) != ("ring", (RED, BLUE)):
            path += (1,) if part_at(writing, path)[0] == "pair" else (0,)
        turned = walked(writing, [("turn", path, 1)])
        self.assertEqual(part_at(turned, path), ("ring", (BLUE, RED)))
        self.assertEqual(way(writing, turned), [("turn", path, 1)])
        self.assertTrue(leads(writing, turned, [("turn", path, 1)]))


class NoSuchStep(unittest.TestCase):

    def check(self, text, *steps, ahead=()):
        """Each of these steps alone does not fit, behind some that do."""
        writing = read_writing(text)
        for step in steps:
            for behind in ([], [step], [("swap", (), 0)]):
                asked = list(ahead) + [step] + behind
                for _ in range(2):
                    with self.assertRaises(FigureError) as caught:
                        walked(writing, asked)
                    self.assertIs(type(caught.exception), NoStep)
                    self.assertEqual(caught.exception.at, len(ahead))
                    self.assertIs(type(caught.exception.at), int)
                self.assertEqual(asked, list(ahead) + [step] + behind)
                self.assertIs(leads(writing, writing, asked), False)

    def test_no_such_path(self):
        text = "{ { red blue } (( red blue )) }"
        for word in ("swap", "turn"):
            self.check(text, *[(word, path, 0) for path in ((2,), (-1,), (0, 2), (0, 0, 0), (0, -1), (1, 5), (9, 9, 9))])
        self.check("nothing", ("swap", (0,), 0))
        self.check("left { red blue }", ("swap", (1,), 0), ("swap", (0, 0), 0))
        self.check("( { red blue } red )", ("swap", (2,), 0), ("swap", (1, 0), 0))

    def test_another_kind_there(self):
        for text in ("nothing", "red", "left { red blue }", "( { red blue } red )", "[ red blue ]", "(( red blue ))"):
            self.check(text, ("swap", (), 0))
        for text in ("nothing", "red", "right (( red ))", "( red red )", "[ red blue ]", "{ red blue }", "< red blue >"):
            self.check(text, ("turn", (), 0))

    def test_i_below_nought_or_too_great(self):
        for text in ("{ red blue green }", "< red blue green >"):
            self.check(text, *[("swap", (), i) for i in (-1, -2, -3, 2, 3, 10 ** 20)])
        for text in ("{ red }", "< red >", "{ }", "< >"):
            self.check(text, *[("swap", (), i) for i in (-1, 0, 1)])
        self.check("(( red blue green ))", *[("turn", (), i) for i in (-1, -3, 3, 4, 10 ** 20)])
        self.check("(( red ))", ("turn", (), 1), ("turn", (), -1))

    def test_a_ring_without_parts(self):
        self.check("(( ))", ("turn", (), 0), ("turn", (), 1), ("turn", (), -1))
        self.check("[ (( )) ]", ("turn", (0,), 0))

    def test_the_number_of_the_step(self):
        ahead = [("swap", (), 0), ("turn", (0,), 1), ("swap", (), 0)]
        self.check("{ red (( red blue )) }", ("turn", (0,), 0), ("swap", (), 1), ("turn", (1,), 2), ahead=ahead)
        self.check("{ red (( red blue )) }", ("turn", (1,), 0), ahead=[("swap", (), 0)])

    def test_asked_again(self):
        writing = read_writing("{ red blue }")
        steps = [("swap", (), 0), ("swap", (), 1)]
        for _ in range(2):
            with self.assertRaises(NoStep) as caught:
                walked(writing, steps)
            self.assertEqual(caught.exception.at, 1)
            self.assertEqual(walked(writing, steps[:1]), ("bag", (BLUE, RED)))


class Ways(unittest.TestCase):

    def check(self, one, other):
        before = repr((one, other))
        steps = way(one, other)
        self.assertIs(type(steps), list)
        self.assertLessEqual(len(steps), MOST_STEPS)
        self.assertEqual(after_steps(one, steps), other)
        self.assertEqual(walked(one, steps), other)
        self.assertIs(leads(one, other, steps), True)
        self.assertEqual(repr((one, other)), before)
        for word, path, i in steps:
            self.assertIn(word, ("swap", "turn"))
            self.assertIs(type(path), tuple)
            self.assertIs(type(i), int)
        return steps

    def test_the_same(self):
        for writing in small_writings(4):
            self.check(writing, writing)
        self.assertEqual(way(RED, RED), [])

    def test_all_ways_of_small_writings(self):
        for writing in small_writings(4)[::7] + small_writings(6, ("red",))[::499]:
            for other in led_to(writing):
                self.check(writing, other)
                self.check(other, writing)

    def test_none_where_the_plain_figures_are_unlike(self):
        writings = small_writings(3)[::2]
        for one, other in itertools.product(writings, writings):
            if plain_told(one) == plain_told(other):
                self.check(one, other)
            else:
                self.assertIsNone(way(one, other))
        self.assertIsNone(way(read_writing("(( a b c ))"), read_writing("(( a c b ))")))
        self.assertIsNone(way(read_writing("{ a b }"), read_writing("< a b >")))
        self.assertIsNone(way(read_writing("[ a b ]"), read_writing("[ b a ]")))
        self.assertIsNone(way(read_writing("{ a a b }"), read_writing("{ a b b }")))

    def test_twins_written_otherwise(self):
        self.check(read_writing("{ { a b } { b a } { a b } }"), read_writing("{ { b a } { b a } { b a } }"))
        self.check(read_writing("(( (( a b )) (( b a )) c (( a b )) (( a b )) c ))"),
                   read_writing("(( (( b a )) c (( a b )) (( b a )) c (( b a )) ))"))
        self.check(read_writing("(( a b a b ))"), read_writing("(( b a b a ))"))

    def test_shaken_writings_of_a_hundred(self):
        chance = random.Random(7)
        for many in [10, 30, 60, 99, 100] * 12:
            writing = grown(many, chance)
            one, other = shaken(writing, chance), shaken(writing, chance)
            self.check(one, other)
            self.check(writing, plain(writing))

    def test_bags_of_almost_a_hundred(self):
        names = [first + second for first in "abcdefghij" for second in "klmnopqrst"][:99]
        beads = tuple(("bead", name) for name in names)
        for kind in ("bag", "choice"):
            self.assertEqual(len(self.check((kind, beads), (kind, beads[::-1]))), 99 * 98 // 2)
        self.check(("ring", beads), ("ring", beads[50:] + beads[:50]))
        self.check(("bag", (RED,) * 99), ("bag", (RED,) * 99))
        self.check(("bag", (RED, BLUE) * 49), ("bag", (BLUE,) * 49 + (RED,) * 49))

    def test_each_told_list_is_the_askers_own(self):
        one, other = read_writing("{ a b c }"), read_writing("{ c b a }")
        steps = way(one, other)
        before = list(steps)
        steps.clear()
        self.assertEqual(way(one, other), before)


class Looker(unittest.TestCase):

    def check(self, one, other, steps):
        before = list(steps)
        told = leads(one, other, steps)
        self.assertIs(told, after_steps(one, steps) == other)
        self.assertEqual(steps, before)
        return told

    def test_no_steps(self):
        self.assertTrue(self.check(RED, RED, []))
        self.assertFalse(self.check(RED, BLUE, []))
        self.assertFalse(self.check(("bag", (RED, BLUE)), ("bag", (BLUE, RED)), []))

    def test_steps_that_lead_there_and_others(self):
        one = read_writing("{ (( red blue blue )) { red blue } (( blue red blue )) < a b c > }")
        chance = random.Random(11)
        false = 0
        for _ in range(20):
            other = shaken(one, chance)
            steps = way(one, other)
            self.assertTrue(self.check(one, other, steps))
            for place, step in enumerate(steps):
                word, path, i = step
                for anew in (
                    [], [step, step], [(word, path, i + 1)], [(word, path, i - 1)], [(word, path + (0,), i)],
                    [(word, path[:-1], i)], [("turn" if word == "swap" else "swap", path, i)], [(word, path + (9,), i)],
                ):
                    false += not self.check(one, other, steps[:place] + anew + steps[place + 1:])
            for end in (shaken(one, chance), RED, one):
                self.check(one, end, steps)
            self.check(other, one, steps)
            self.check(one, other, steps[::-1])
        self.assertGreater(false, 200)

    def test_no_refusal_for_a_step_that_does_not_fit(self):
        bag = ("bag", (RED, BLUE))
        for step in (("swap", (), 1), ("swap", (), -1), ("turn", (), 0), ("swap", (3,), 0), ("swap", (0,), 0)):
            self.assertIs(leads(bag, bag, [step]), False)
            self.assertIs(leads(bag, bag, [("swap", (), 0), ("swap", (), 0), step]), False)
            self.assertIs(leads(bag, bag, [step, ("swap", (), 0), ("swap", (), 0)]), False)

    def test_arguments_by_their_names(self):
        bag = ("bag", (RED, BLUE))
        self.assertEqual(way(one=bag, other=bag), [])
        self.assertIs(leads(one=bag, other=bag, steps=[]), True)
        self.assertEqual(walked(writing=bag, steps=[]), bag)
