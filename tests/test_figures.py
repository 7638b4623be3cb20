"""Sizes (12), keys (13), plain figures (14, 16) and parts (15) of writings."""

import itertools
import unittest

from figurebook.figures import is_plain, key_of, part_at, plain, size_of
from tests.written import (
    BLUE, KINDS, NOTHING, RED, deep, key_told, led_to, parts_of, paths_of, plain_told, size_told, small_writings,
    stepped, writings_of,
)

HOLDING = ("left", "right", "pair", "row", "bag", "choice", "ring")


def plain_part_by_part(writing):
    """Whether a writing and all its parts keep to the words of 14."""
    parts = parts_of(writing)
    keys = tuple(key_told(part) for part in parts)
    if writing[0] in ("bag", "choice") and any(one < other for one, other in zip(keys, keys[1:])):
        return False
    if writing[0] == "ring" and any(keys[start:] + keys[:start] < keys for start in range(len(keys))):
        return False
    return all(plain_part_by_part(part) for part in parts)


class Sizes(unittest.TestCase):

    def check(self, size, writing):
        self.assertEqual(size_of(writing), size, writing)
        self.assertIs(type(size_of(writing)), int)

    def test_each_kind(self):
        self.check(0, NOTHING)
        self.check(1, RED)
        self.check(1, ("left", RED))
        self.check(0, ("left", NOTHING))
        self.check(1, ("right", BLUE))
        self.check(2, ("pair", RED, BLUE))
        self.check(1, ("pair", NOTHING, BLUE))
        for kind in ("row", "bag", "choice", "ring"):
            self.check(0, (kind, ()))
            self.check(1, (kind, (RED,)))
            self.check(0, (kind, (NOTHING, NOTHING)))
            self.check(3, (kind, (RED, NOTHING, BLUE, RED)))

    def test_beads_within(self):
        tree = ("pair", RED, ("bag", (("row", (RED, ("left", BLUE))), ("ring", ()), ("choice", (RED, RED)))))
        self.check(5, tree)
        self.check(10, ("row", (tree, NOTHING, tree)))

    def test_all_small_writings(self):
        for writing in small_writings(4):
            self.check(size_told(writing), writing)


class Keys(unittest.TestCase):

    def check(self, key, writing):
        self.assertEqual(key_of(writing), key, writing)
        self.assertIs(type(key_of(writing)), tuple)

    def test_each_kind(self):
        self.check((0, 0), NOTHING)
        self.check((1, 1, "red"), RED)
        self.check((1, 1, "a"), ("bead", "a"))
        self.check((1, 2, (1, 1, "red")), ("left", RED))
        self.check((0, 3, (0, 0)), ("right", NOTHING))
        self.check((2, 4, (1, 1, "red"), (1, 1, "blue")), ("pair", RED, BLUE))
        self.check((1, 5, (1, 1, "red")), ("row", (RED,)))
        for number, kind in ((5, "row"), (6, "bag"), (7, "choice"), (8, "ring")):
            self.check((0, number), (kind, ()))
            self.check((1, number, (1, 1, "red")), (kind, (RED,)))
            self.check((2, number, (1, 1, "red"), (0, 0), (1, 1, "blue")), (kind, (RED, NOTHING, BLUE)))
            self.check((2, number, (1, 1, "blue"), (0, 0), (1, 1, "red")), (kind, (BLUE, NOTHING, RED)))

    def test_keys_within_keys(self):
        self.check(
            (3, 4, (1, 2, (1, 1, "red")), (2, 8, (0, 3, (0, 5)), (2, 6, (1, 1, "blue"), (1, 1, "red")))),
            ("pair", ("left", RED), ("ring", (("right", ("row", ())), ("bag", (BLUE, RED))))),
        )

    def test_the_order_of_figures(self):
        rising = [
            NOTHING, ("left", NOTHING), ("right", NOTHING), ("pair", NOTHING, NOTHING), ("row", ()),
            ("row", (NOTHING,)), ("row", (NOTHING, NOTHING)), ("row", (("row", ()),)), ("bag", ()), ("choice", ()),
            ("ring", ()), ("bead", "a"), ("bead", "ab"), ("bead", "b"), ("left", ("bead", "a")),
            ("left", ("bead", "b")), ("right", ("bead", "a")), ("pair", NOTHING, RED), ("pair", RED, NOTHING),
            ("row", (NOTHING, RED)), ("row", (RED,)), ("ring", (RED,)), ("left", ("row", (RED, RED))),
            ("pair", BLUE, RED), ("pair", RED, BLUE), ("row", (RED, RED)),
        ]
        for (one, first), (other, second) in itertools.product(enumerate(rising), repeat=2):
            self.assertEqual(key_of(first) < key_of(second), one < other, (first, second))

    def test_all_small_writings(self):
        for writing in small_writings(4):
            self.check(key_told(writing), writing)

    def test_unlike_figures_have_unlike_keys(self):
        writings = small_writings(5, ("red",))
        self.assertEqual(len({key_of(writing) for writing in writings}), len(set(writings)))


class Plain(unittest.TestCase):

    def check(self, figure, writing):
        self.assertEqual(plain(writing), figure, writing)
        self.assertEqual(plain(figure), figure)
        self.assertIs(is_plain(figure), True)
        self.assertIs(is_plain(writing), writing == figure, writing)

    def test_what_is_plain_by_itself(self):
        for writing in (NOTHING, RED, ("left", RED), ("right", NOTHING), ("pair", RED, BLUE), ("pair", BLUE, RED),
                        ("row", ()), ("row", (RED, BLUE)), ("row", (BLUE, RED, BLUE)), ("bag", ()), ("choice", ()),
                        ("ring", ()), ("bag", (RED,)), ("choice", (BLUE,)), ("ring", (RED,)), ("ring", (RED, RED))):
            self.check(writing, writing)

    def test_bags_and_choices_fall(self):
        for kind in ("bag", "choice"):
            self.check((kind, (RED, BLUE)), (kind, (BLUE, RED)))
            self.check((kind, (RED, RED, BLUE, BLUE)), (kind, (BLUE, RED, BLUE, RED)))
            self.check((kind, (RED, NOTHING)), (kind, (NOTHING, RED)))
            self.check((kind, (("row", (RED, RED)), ("ring", (RED,)), RED)), (kind, (RED, ("row", (RED, RED)),
                                                                                      ("ring", (RED,)))))

    def test_rings_begin_with_the_least(self):
        self.check(("ring", (BLUE, RED)), ("ring", (RED, BLUE)))
        self.check(("ring", (BLUE, RED, RED)), ("ring", (RED, BLUE, RED)))
        self.check(("ring", (BLUE, RED, RED)), ("ring", (RED, RED, BLUE)))
        self.check(("ring", (NOTHING, RED, BLUE)), ("ring", (RED, BLUE, NOTHING)))

    def test_rings_are_not_turned_over(self):
        green = ("bead", "green")
        self.check(("ring", (BLUE, green, RED)), ("ring", (green, RED, BLUE)))
        self.check(("ring", (BLUE, RED, green)), ("ring", (RED, green, BLUE)))

    def test_the_least_part_stands_at_several_places(self):
        self.check(("ring", (BLUE, BLUE, RED, BLUE, RED)), ("ring", (BLUE, RED, BLUE, BLUE, RED)))
        self.check(("ring", (BLUE, BLUE, RED, BLUE, RED)), ("ring", (RED, BLUE, BLUE, RED, BLUE)))
        self.check(("ring", (BLUE, BLUE, BLUE, RED)), ("ring", (BLUE, RED, BLUE, BLUE)))
        self.check(("ring", (BLUE, RED, BLUE, RED, RED)), ("ring", (BLUE, RED, RED, BLUE, RED)))

    def test_several_turns_are_alike(self):
        self.check(("ring", (BLUE, RED) * 3), ("ring", (RED, BLUE) * 3))
        self.check(("ring", (BLUE, BLUE, RED) * 2), ("ring", (BLUE, RED, BLUE) * 2))
        self.check(("ring", (RED,) * 5), ("ring", (RED,) * 5))

    def test_parts_first(self):
        bag, poured = ("bag", (RED, BLUE)), ("bag", (BLUE, RED))
        self.check(("left", bag), ("left", poured))
        self.check(("right", bag), ("right", poured))
        self.check(("pair", bag, bag), ("pair", poured, bag))
        self.check(("row", (bag, RED, bag)), ("row", (bag, RED, poured)))
        self.check(("bag", (bag, bag)), ("bag", (poured, bag)))
        self.check(("ring", (bag, bag)), ("ring", (poured, bag)))

    def test_parts_are_ordered_by_their_plain_keys(self):
        # By the keys as they are written the first would be less than the second.
        one, other = ("bag", (BLUE, ("bead", "z"))), ("bag", (RED, RED))
        self.assertLess(key_of(one), key_of(other))
        self.assertGreater(key_of(plain(one)), key_of(other))
        for kind in ("bag", "choice"):
            self.check((kind, (plain(one), other)), (kind, (other, one)))
            self.check((kind, (plain(one), other)), (kind, (one, other)))
        self.check(("ring", (other, plain(one))), ("ring", (one, other)))
        self.check(("ring", (other, plain(one))), ("ring", (other, one)))

    def test_rings_of_rings_and_bags(self):
        ring, turned = ("ring", (BLUE, RED)), ("ring", (RED, BLUE))
        self.check(("ring", (RED, ring, ring)), ("ring", (turned, RED, ring)))
        self.check(("ring", (ring, ring)), ("ring", (ring, turned)))
        self.check(("bag", (ring, ("choice", (RED, BLUE)), RED)), ("bag", (("choice", (BLUE, RED)), RED, turned)))
        within = ("ring", (("ring", (RED, ("bag", (RED, BLUE)))),))
        self.check(within, ("ring", (("ring", (("bag", (BLUE, RED)), RED)),)))

    def test_all_small_writings(self):
        for writing in small_writings(4):
            figure = plain_told(writing)
            self.assertTrue(plain_part_by_part(figure))
            self.assertIs(is_plain(writing), plain_part_by_part(writing), writing)
            self.check(figure, writing)

    def test_all_short_bags_and_rings_of_a_few_parts(self):
        some = (NOTHING, RED, BLUE, ("bag", (BLUE, RED)), ("ring", (RED, BLUE)))
        for many in range(6):
            for parts in itertools.product(some[:5 if many < 5 else 3], repeat=many):
                for kind in ("bag", "choice", "ring"):
                    self.check(plain_told((kind, parts)), (kind, parts))

    def test_long_rings(self):
        for size in (7, 9, 12):
            for at in range(0, 2 ** size, 37):
                parts = tuple((RED, BLUE)[at >> place & 1] for place in range(size))
                self.check(plain_told(("ring", parts)), ("ring", parts))

    def test_what_is_handed_in_stays(self):
        writing = ("bag", (BLUE, ("ring", (RED, BLUE)), RED))
        plain(writing)
        is_plain(writing)
        self.assertEqual(writing, ("bag", (BLUE, ("ring", (RED, BLUE)), RED)))


class Large(unittest.TestCase):

    def check_all(self, writing, size):
        """A large writing that is plain already."""
        self.assertEqual(size_of(writing), size)
        self.assertEqual(key_of(writing)[0], size)
        self.assertEqual(plain(writing), writing)
        self.assertIs(is_plain(writing), True)

    def test_six_hundred(self):
        for kind in ("row", "bag", "choice", "ring"):
            self.check_all((kind, (RED,) * 599), 599)
            parts = (RED, BLUE) * 299 + (RED,)
            falling = (RED,) * 300 + (BLUE,) * 299
            turned = (BLUE, RED) * 299 + (RED,)
            expected = {"row": parts, "bag": falling, "choice": falling, "ring": turned}[kind]
            self.assertEqual(plain((kind, parts)), (kind, expected))
            self.assertEqual(size_of((kind, parts)), 599)
        bags = tuple(("bag", (BLUE,) * (at % 2) + (RED, BLUE, RED)) for at in range(120))
        one, other = ("bag", (RED, RED, BLUE)), ("bag", (RED, RED, BLUE, BLUE))
        self.assertEqual(plain(("ring", bags)), ("ring", (one, other) * 60))
        self.assertEqual(plain(("bag", bags)), ("bag", (other,) * 60 + (one,) * 60))

    def test_thousands_of_pairs(self):
        writing = ("bag", (RED, BLUE))
        for _ in range(11):
            writing = ("pair", writing, writing)
        self.check_all(writing, 2 ** 12)

    def test_deep_ones(self):
        for many in (120, 240):
            for kinds in [(kind,) for kind in HOLDING] + [HOLDING, ("ring", "bag"), ("left", "choice", "pair")]:
                self.check_all(deep(many, kinds), 1)
                self.check_all(deep(many, kinds, NOTHING), 0)
                path = tuple(1 if kinds[at % len(kinds)] == "pair" else 0 for at in reversed(range(many - 1)))
                self.assertEqual(part_at(deep(many, kinds), path), RED)
                self.assertIsNone(part_at(deep(many, kinds), path + (0,)))

    def test_deep_ones_that_are_not_plain(self):
        for many in (120, 240):
            for kinds in (("ring",), ("bag", "left"), ("choice", "row", "pair", "right")):
                writing = deep(many - 1, kinds, ("bag", (BLUE, RED)))
                self.assertIs(is_plain(writing), False)
                self.assertEqual(plain(writing), deep(many - 1, kinds, ("bag", (RED, BLUE))))

    def test_deep_twins_beside_each_other(self):
        for kind in ("bag", "choice", "ring"):
            one, other = deep(239, ("bag", "ring", "left")), deep(239, ("bag", "ring", "left"), BLUE)
            first, second = (other, one) if kind == "ring" else (one, other)
            self.assertEqual(plain((kind, (one, other))), (kind, (first, second)))
            self.assertEqual(plain((kind, (other, one))), (kind, (first, second)))
            self.check_all((kind, (one, one)), 2)

    def test_six_hundred_with_a_hundred_and_twenty_within(self):
        writing = RED
        for at in range(119):
            kind = ("bag", "ring", "choice", "ring")[at % 4]
            beside = (("bag", (BLUE, RED)), ("bead", "a")) if at % 2 else (NOTHING, ("ring", (RED, BLUE)))
            writing = (kind, beside + (writing,)) if at % 3 else (kind, (writing,) + beside)
        self.assertGreater(len(paths_of(writing)), 590)
        figure = plain_told(writing)
        self.assertNotEqual(figure, writing)
        self.assertEqual(plain(writing), figure)
        self.assertEqual(key_of(writing), key_told(writing))
        self.check_all(figure, size_told(writing))


class Parts(unittest.TestCase):

    def check(self, writing, path, part):
        told = part_at(writing, path)
        self.assertEqual(told, part, (writing, path))

    def test_each_kind(self):
        for writing in (NOTHING, RED):
            self.check(writing, (), writing)
            for number in (-2, -1, 0, 1, 2):
                self.check(writing, (number,), None)
        for kind in ("left", "right"):
            self.check((kind, RED), (), (kind, RED))
            self.check((kind, RED), (0,), RED)
            for number in (-2, -1, 1, 2):
                self.check((kind, RED), (number,), None)
        self.check(("pair", RED, BLUE), (0,), RED)
        self.check(("pair", RED, BLUE), (1,), BLUE)
        for number in (-3, -2, -1, 2, 3):
            self.check(("pair", RED, BLUE), (number,), None)
        for kind in ("row", "bag", "choice", "ring"):
            self.check((kind, (RED, NOTHING, BLUE)), (0,), RED)
            self.check((kind, (RED, NOTHING, BLUE)), (1,), NOTHING)
            self.check((kind, (RED, NOTHING, BLUE)), (2,), BLUE)
            for number in (-4, -3, -1, 3, 4, 10 ** 30):
                self.check((kind, (RED, NOTHING, BLUE)), (number,), None)
            for number in (-1, 0, 1):
                self.check((kind, ()), (number,), None)

    def test_further_in(self):
        writing = ("row", (("pair", ("left", RED), ("bag", (BLUE, ("ring", (RED, BLUE))))), NOTHING))
        self.check(writing, (), writing)
        self.check(writing, (0, 0), ("left", RED))
        self.check(writing, (0, 0, 0), RED)
        self.check(writing, (0, 1, 1), ("ring", (RED, BLUE)))
        self.check(writing, (0, 1, 1, 1), BLUE)
        for path in ((2,), (0, 2), (0, 0, 1), (0, 0, 0, 0), (1, 0), (0, 1, -1), (0, -1, 0), (-2, 0), (5, 0),
                     (0, 1, 1, 2), (0, 1, 0, 0), (1, 0, 0, 0)):
            self.check(writing, path, None)

    def test_all_paths_of_small_writings(self):
        def walked_to(writing, path):
            return walked_to(parts_of(writing)[path[0]], path[1:]) if path else writing
        for writing in small_writings(4, ("red",)):
            paths = paths_of(writing)
            for path in paths:
                self.assertEqual(part_at(writing, path), walked_to(writing, path))
                for number in range(-2, 4):
                    if path + (number,) not in paths:
                        self.assertIsNone(part_at(writing, path + (number,)))


class Steps(unittest.TestCase):

    def test_one_step_keeps_the_plain_figure(self):
        for writing in small_writings(4):
            figure = plain(writing)
            for other in stepped(writing):
                self.assertEqual(plain(other), figure, (writing, other))

    def test_one_plain_figure_just_where_steps_lead(self):
        for many, colours in ((1, ("red", "blue")), (2, ("red", "blue")), (3, ("red", "blue")),
                              (4, ("red", "blue")), (5, ("red",))):
            groups = {}
            for writing in writings_of(many, colours):
                groups.setdefault(plain(writing), set()).add(writing)
            for figure, group in groups.items():
                self.assertEqual(led_to(figure), group)

    def test_all_that_steps_lead_to_from_a_larger_one(self):
        ring = ("ring", (RED, BLUE, ("bag", (RED, BLUE, NOTHING))))
        writing = ("choice", (ring, ("pair", ring, RED)))
        led = led_to(writing)
        self.assertEqual(len(led), 2 * 18 * 18)
        self.assertEqual({plain(other) for other in led}, {plain(writing)})
        self.assertEqual([other for other in led if is_plain(other)], [plain(writing)])


class Kinds(unittest.TestCase):

    def test_the_nine_are_told_in_their_order(self):
        told = [key_of(("bead", "red"))[1]] + [key_of(deep(2, (kind,)))[1] for kind in HOLDING]
        self.assertEqual([KINDS[number] for number in told], ["bead", *HOLDING])
