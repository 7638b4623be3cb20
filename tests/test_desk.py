"""The lines of a desk and its answers (35), and what it refuses (36)."""

import unittest

from figurebook.desk import Desk
from figurebook.errors import (
    FigureError, Hollow, NoBook, NoClass, NoFit, NoLine, NoNames, NoSuch, NoText, Round, TooMany, Twice,
)
from figurebook.figures import size_of
from figurebook.writings import read_writing

TREES = (
    "rule tree bead red by bag of tree", "rule wood bag of tree", "rule mob choice of tree", "rule band ring of tree",
    "rule none none by bead red", "rule two bead red or bead blue", "rule rows row of two",
)
WORDS = ("rule", "drop", "make", "count", "named", "list", "figure", "number", "fits", "plain", "own", "part")
# One line of each kind that is answered by the desk of TREES.
ANSWERED = (
    "make", "count tree 5", "named tree 5", "list tree 3", "figure tree 3 1", "number tree ( red { } )",
    "fits tree ( red { } )", "plain { red blue }", "own { red red }", "part tree wood 3", "drop rows",
    "rule rows row of bead red",
)


def desk_of(*lines):
    desk = Desk()
    for line in lines:
        desk.said(line)
    return desk


def made_desk():
    return desk_of(*TREES, "make")


class Checked(unittest.TestCase):

    def check(self, desk, line, answer):
        told = desk.said(line)
        self.assertEqual(told, answer, line)
        self.assertIs(type(told), str)

    def refused(self, desk, kind, asked, /, **values):
        """Twice, since what is refused changes nothing and can be asked again."""
        for _ in range(2):
            with self.assertRaises(FigureError) as caught:
                desk.said(asked)
            self.assertIs(type(caught.exception), kind, asked)
            for name, value in values.items():
                self.assertEqual(getattr(caught.exception, name), value, asked)


class Answers(Checked):

    def test_rule_and_drop(self):
        desk = Desk()
        self.check(desk, "rule a bead red", "1")
        self.check(desk, "rule b a by b", "2")
        self.check(desk, "rule c nowhere or ( nothing )", "3")
        self.check(desk, "drop b", "2")
        self.check(desk, "rule b bead blue", "3")
        self.check(desk, "drop c", "2")
        self.check(desk, "drop a", "1")
        self.check(desk, "drop b", "0")
        self.check(desk, "rule b bead blue", "1")

    def test_make_answers_the_names_in_their_order(self):
        desk = desk_of("rule b bead red", "rule a b", "rule c a by b")
        self.check(desk, "make", "b a c")
        desk.said("drop b")
        desk.said("rule b bead blue")
        self.check(desk, "make", "a c b")
        self.check(desk_of("rule a bead red"), "make", "a")

    def test_count_and_named(self):
        desk = made_desk()
        self.check(desk, "count tree 0", "0")
        self.check(desk, "count tree 5", "9")
        self.check(desk, "count rows 40", str(2 ** 40))
        self.check(desk, "count mob 8", "225")
        self.check(desk, "count none 40", "0")
        self.check(desk, "named tree 0", "0")
        self.check(desk, "named tree 20", str(20 ** 19))
        self.check(desk, "named wood 2", "3")
        self.check(desk, "named band 3", "17")

    def test_each_kind_of_rule(self):
        desk = desk_of(
            "rule a nothing", "rule b bead red", "rule c a or b", "rule d b by c", "rule e row of b", "rule f bag of b",
            "rule g choice of b", "rule h ring of b", "make",
        )
        told = [desk.said(f"list {name} {size}") for name in "abcdefgh" for size in (0, 1, 2)]
        self.assertEqual(told, [
            "nothing", "none", "none", "none", "red", "none", "left nothing", "right red", "none",
            "none", "( red left nothing )", "( red right red )", "[ ]", "[ red ]", "[ red red ]",
            "{ }", "{ red }", "{ red red }", "< >", "< red >", "none", "none", "(( red ))", "(( red red ))",
        ])

    def test_list(self):
        desk = made_desk()
        self.check(desk, "list tree 3", "( red { ( red { } ) ( red { } ) } ); ( red { ( red { ( red { } ) } ) } )")
        self.check(desk, "list tree 1", "( red { } )")
        self.check(desk, "list tree 0", "none")
        self.check(desk, "list none 10", "none")
        self.check(desk, "list rows 0", "[ ]")
        self.check(desk, "list rows 1", "[ left red ]; [ right blue ]")
        self.assertEqual(desk.said("list rows 8").count("; "), 255)

    def test_figure_and_number(self):
        desk = made_desk()
        self.check(desk, "figure tree 3 0", "( red { ( red { } ) ( red { } ) } )")
        self.check(desk, "figure tree 3 1", "( red { ( red { ( red { } ) } ) } )")
        self.check(desk, "figure rows 0 0", "[ ]")
        self.check(desk, "figure rows 2 3", "[ right blue right blue ]")
        self.check(desk, "number tree ( red { ( red { ( red { } ) } ) } )", "1")
        self.check(desk, "number rows [ right blue right blue ]", "3")
        self.check(desk, "number tree ( red { } )", "0")
        for number in (0, 1, 16383, 9999):
            self.check(desk, "number rows " + desk.said(f"figure rows 14 {number}"), str(number))
        self.check(desk, "number band (( ( red { } ) ( red { ( red { } ) } ) ))", "1")
        self.check(desk, "number band (( ( red { ( red { } ) } ) ( red { } ) ))", "1")
        self.check(desk, "number wood { ( red { } ) ( red { ( red { } ) } ) }", desk.said(
            "number wood { ( red { ( red { } ) } ) ( red { } ) }"))

    def test_fits(self):
        desk = made_desk()
        self.check(desk, "fits tree ( red { } )", "yes")
        self.check(desk, "fits tree red", "no")
        self.check(desk, "fits tree ( blue { } )", "no 0")
        self.check(desk, "fits tree ( red { ( red { } ) ( red { ( blue { } ) } ) } )", "no 1 1 1 0 0")
        self.check(desk, "fits mob < ( red { } ) ( red { } ) >", "no")
        self.check(desk, "fits band (( ))", "no")
        self.check(desk, "fits rows [ left red right blue right red ]", "no 2 0")
        self.check(desk, "fits rows [ " + "left red " * 11 + "red ]", "no 11")
        self.check(desk, "fits rows [ " + "left red " * 60 + "]", "yes")

    def test_plain_and_own_of_each_kind_of_writing_with_a_book_or_without(self):
        for desk in (Desk(), desk_of(*TREES), made_desk()):
            self.check(desk, "plain nothing", "nothing")
            self.check(desk, "plain red", "red")
            self.check(desk, "plain left { a b }", "left { b a }")
            self.check(desk, "plain right red", "right red")
            self.check(desk, "plain ( < a b > [ b a ] )", "( < b a > [ b a ] )")
            self.check(desk, "plain (( b a (( )) { a { c } } ))", "(( (( )) { { c } a } b a ))")
            self.check(desk, "own nothing", "1")
            self.check(desk, "own red", "1")
            self.check(desk, "own left { a a }", "2")
            self.check(desk, "own [ { a a } right < a a a > ]", "12")
            self.check(desk, "own ( (( a b a b )) (( )) )", "2")

    def test_part(self):
        desk = made_desk()
        self.check(desk, "part tree tree 40", "alike")
        self.check(desk, "part tree wood 40", "0 0 1")
        self.check(desk, "part wood tree 40", "0 1 0")
        self.check(desk, "part wood mob 40", "2 2 1")
        self.check(desk, "part mob wood 40", "2 1 2")
        self.check(desk, "part wood mob 1", "alike")
        self.check(desk, "part tree none 0", "alike")
        self.check(desk, "part rows none 0", "0 1 0")

    def test_counts_of_some_thousand_figures(self):
        ten, many = " or ".join(["nothing"] * 10), 29
        desk = desk_of(f"rule a {ten}", "rule b " + " by ".join(["a"] * many), "rule c " + " by ".join(["b"] * many),
                       "rule d c by c by c by c", "rule e d or nothing", "make")
        self.check(desk, "count d 0", "1" + "0" * 3364)
        self.check(desk, "named d 0", "1" + "0" * 3364)
        self.check(desk, "part d e 40", "0 1" + "0" * 3364 + " 1" + "0" * 3363 + "1")

    def test_long_lines(self):
        desk = desk_of("rule a row of bead verylong", "make")
        line = "fits a [ " + "verylong " * 290 + "]"
        self.check(desk, line, "yes")
        self.check(desk, "plain " + line[7:], line[7:])

    def test_texts_of_told_figures_are_read(self):
        desk = desk_of("rule a bead red by ( nothing or nothing or nothing ) or a by a by a", "make")
        told = desk.said("figure a 13 99999")
        self.check(desk, f"number a {told}", "99999")
        self.check(desk, f"fits a {told}", "yes")
        self.check(desk, f"plain {told}", told)


class NoSuchLine(Checked):

    def check_lines(self, *lines):
        desks = (Desk(), desk_of(*TREES), made_desk())
        for line in lines:
            for desk in desks:
                self.refused(desk, NoLine, line, line=line)

    def test_a_first_word_that_is_none(self):
        self.check_lines("", " ", "x", "counts tree 3", "Count tree 3", "MAKE", "rules a bead red", "maker", "red", "of")
        self.check_lines("tree", "3", "( red red )", "?", "bead red", "named", "lists tree 3", "numbers tree red")

    def test_too_few_words(self):
        self.check_lines(
            "rule", "rule a", "drop", "count", "count tree", "named", "named tree", "list", "list tree", "figure",
            "figure tree", "figure tree 3", "number", "number tree", "fits", "fits tree", "plain", "own", "part", "part tree",
            "part tree wood",
        )

    def test_too_many_words(self):
        self.check_lines(
            "make make", "make tree", "drop tree tree", "count tree 3 3", "named tree 3 x", "list tree 3 0",
            "figure tree 3 1 1", "part tree wood 3 3",
        )

    def test_blanks_twice_ahead_or_behind(self):
        for line in ANSWERED:
            self.check_lines(" " + line)
        for line in ("make", "count tree 5", "named tree 5", "list tree 3", "figure tree 3 1", "part tree wood 3", "drop rows"):
            self.check_lines(line + " ", line + "  ")
            for place, sign in enumerate(line):
                if sign == " ":
                    self.check_lines(line[:place] + " " + line[place:])
        for line in ("number  tree red", "fits  tree red", "rule  a bead red", " plain red", "  own red", "make  "):
            self.check_lines(line)

    def test_a_name_that_is_none(self):
        kept = ("nothing", "bead", "or", "by", "row", "bag", "choice", "ring", "of", "left", "right")
        for name in kept + ("", "Tree", "tRee", "treE", "t1", "1", "abcdefghi", "tree-", "(", "a.b", "_", "tree;"):
            self.check_lines(
                f"rule {name} bead red", f"drop {name}", f"count {name} 3", f"named {name} 3", f"list {name} 3",
                f"figure {name} 3 0", f"number {name} red", f"fits {name} red", f"part {name} tree 3", f"part tree {name} 3",
            )
        desk = Desk()
        self.check(desk, "rule abcdefgh bead red", "1")
        for count, name in enumerate(("z", "rows", "nothin", "beads", "make"), 2):
            self.check(desk, f"rule {name} bead red", str(count))

    def test_numbers_that_are_none(self):
        for number in ("", "00", "01", "007", "+1", "-1", "-0", "1.0", "a", "1a", "a1", "one", "1" * 31, "9" * 40, "0x1", "1_0",
                       "(", "1,"):
            self.check_lines(
                f"count tree {number}", f"named tree {number}", f"list tree {number}", f"figure tree {number} 0",
                f"figure tree 3 {number}", f"part tree wood {number}",
            )
        self.refused(made_desk(), NoSuch, "figure tree 3 " + "9" * 30)
        self.refused(made_desk(), NoSuch, "figure tree 3 1" + "0" * 29)
        self.check(made_desk(), "figure tree 3 0", "( red { ( red { } ) ( red { } ) } )")

    def test_sizes_and_tops_at_their_bounds(self):
        desk = made_desk()
        for line, bound in (("count none {}", 40), ("named none {}", 20), ("list none {}", 10), ("part none none {}", 40)):
            for size in (0, 1, bound - 1, bound):
                self.assertIn(desk.said(line.format(size)), ("0", "none", "alike"))
            self.check_lines(*[line.format(size) for size in (bound + 1, bound + 2, 99, 10 ** 29)])
        for size in (0, 13, 14):
            self.refused(desk, NoSuch, f"figure none {size} 0")
        self.check_lines(*[f"figure none {size} 0" for size in (15, 16, 40, 10 ** 29)])

    def test_a_writing_of_number_with_fifteen_beads(self):
        fourteen, fifteen = "[ " + "left red " * 14 + "]", "[ " + "left red " * 15 + "]"
        self.assertEqual(size_of(read_writing(fifteen)), 15)
        self.check(made_desk(), f"number rows {fourteen}", "0")
        self.check_lines(f"number rows {fifteen}", f"number tree {fifteen}", f"number nowhere {fifteen}")
        for desk in (Desk(), made_desk()):
            self.refused(desk, NoText, f"number rows {fifteen} )", at=32)
            self.refused(desk, NoText, f"number nowhere {fifteen[:-2]}", at=31)
        self.refused(Desk(), NoBook, f"number rows {fourteen}")
        self.check(made_desk(), f"fits rows {fifteen}", "yes")


class NoSuchText(Checked):

    def check_texts(self, line, **values):
        for desk in (Desk(), desk_of(*TREES), made_desk()):
            self.refused(desk, NoText, line, **values)

    def test_of_rules(self):
        self.check_texts("rule a ", at=0)
        self.check_texts("rule a  ", at=0)
        self.check_texts("rule a  bead red", at=0)
        self.check_texts("rule a bead red ", at=2)
        self.check_texts("rule a bead", at=1)
        self.check_texts("rule a row of", at=2)
        self.check_texts("rule a bead red or", at=3)
        self.check_texts("rule a bead red bead blue", at=2)
        self.check_texts("rule a bead  red", at=1)
        self.check_texts("rule a ( bead red", at=3)
        self.check_texts("rule a left", at=0)
        self.check_texts("rule a Red", at=0)

    def test_of_writings(self):
        for start in ("plain", "own", "fits tree", "fits nowhere", "number tree", "number nowhere"):
            self.check_texts(f"{start} ", at=0)
            self.check_texts(f"{start}  red", at=0)
            self.check_texts(f"{start} red ", at=1)
            self.check_texts(f"{start} red red", at=1)
            self.check_texts(f"{start} ( red )", at=2)
            self.check_texts(f"{start} ( red red red", at=3)
            self.check_texts(f"{start} [ red }}", at=2)
            self.check_texts(f"{start} {{ red", at=2)
            self.check_texts(f"{start} bead red", at=0)
            self.check_texts(f"{start} 3", at=0)
            self.check_texts(f"{start} left", at=1)

    def test_behind_no_line_and_ahead_of_the_rest(self):
        self.refused(made_desk(), NoLine, "rule Tree of", line="rule Tree of")
        self.refused(made_desk(), NoLine, "number 1 of", line="number 1 of")
        full = desk_of(*[f"rule {name} nothing" for name in "abcdefgh"])
        self.refused(full, NoText, "rule a of", at=0)
        self.refused(full, NoText, "rule z of", at=0)
        self.refused(Desk(), NoText, "fits a of", at=0)


class Refusals(Checked):

    def test_twice_ahead_of_too_many(self):
        desk = Desk()
        for count, name in enumerate("abcdefgh", 1):
            self.check(desk, f"rule {name} bead red", str(count))
            self.refused(desk, Twice, f"rule {name} bead blue", name=name)
            self.refused(desk, Twice, "rule a bead blue", name="a")
        self.refused(desk, TooMany, "rule i bead red")
        self.refused(desk, Twice, "rule h bead red", name="h")
        self.check(desk, "drop c", "7")
        self.check(desk, "rule i bead red", "8")
        self.refused(desk, TooMany, "rule c bead red")
        self.check(desk, "make", "a b d e f g h i")

    def test_drop(self):
        desk = Desk()
        self.refused(desk, NoClass, "drop a", name="a")
        desk.said("rule a bead red")
        self.refused(desk, NoClass, "drop b", name="b")
        self.check(desk, "make", "a")
        self.check(desk, "drop a", "0")
        # The book still has the class, but the rule is kept no longer.
        self.refused(desk, NoClass, "drop a", name="a")
        self.check(desk, "count a 1", "1")

    def test_make(self):
        self.refused(Desk(), NoBook, "make")
        self.refused(desk_of("rule a b", "rule c d"), NoClass, "make", name="b")
        self.refused(desk_of("rule a z by b"), NoClass, "make", name="b")
        self.refused(desk_of("rule b bead red", "rule a row of bag of b", "rule c c"), Hollow, "make", name="a")
        self.refused(desk_of("rule a row of row of a", "rule c d"), NoClass, "make", name="d")
        desk = desk_of("rule a bead red or b", "rule b a")
        with self.assertRaises(Round) as caught:
            desk.said("make")
        self.assertEqual(sorted(caught.exception.circle), ["a", "b"])
        self.assertIs(type(caught.exception.circle), list)
        self.refused(desk_of("rule a a"), Round, "make", circle=["a"])
        desk = desk_of("rule a bead red", "drop a")
        self.refused(desk, NoBook, "make")

    def test_no_book_ahead_of_no_class(self):
        asking = ("count {} 3", "named {} 3", "list {} 3", "figure {} 3 0", "number {} red", "fits {} red", "part {} {} 3")
        for line in asking:
            for name in ("tree", "nowhere"):
                self.refused(Desk(), NoBook, line.replace("{}", name))
                self.refused(desk_of(*TREES), NoBook, line.replace("{}", name))
            self.refused(made_desk(), NoClass, line.replace("{}", "nowhere"), name="nowhere")

    def test_the_first_name_of_part_ahead_of_the_second(self):
        desk = made_desk()
        self.refused(desk, NoClass, "part x y 3", name="x")
        self.refused(desk, NoClass, "part y x 3", name="y")
        self.refused(desk, NoClass, "part tree x 3", name="x")
        self.refused(desk, NoClass, "part x tree 3", name="x")
        self.refused(Desk(), NoBook, "part x y 3")

    def test_a_class_kept_but_not_in_the_book(self):
        desk = made_desk()
        desk.said("rule late bead red")
        for line in ("count late 3", "fits late red", "part tree late 3"):
            self.refused(desk, NoClass, line, name="late")
        desk.said("make")
        self.check(desk, "count late 1", "1")

    def test_what_the_asked_functions_tell(self):
        desk = made_desk()
        self.refused(desk, TooMany, "list tree 10")
        self.refused(desk, TooMany, "list rows 9")
        self.refused(desk, NoSuch, "figure tree 3 2")
        self.refused(desk, NoSuch, "figure none 3 0")
        self.refused(desk, TooMany, "figure band 14 0")
        self.refused(desk, TooMany, "figure band 9 " + "9" * 30)
        self.refused(desk, NoSuch, "figure band 3 4")
        self.refused(desk, NoNames, "named mob 3")
        self.refused(desk, NoFit, "number tree red", path=())
        self.refused(desk, NoFit, "number tree ( red { ( red blue ) } )", path=(1, 0, 1))
        band = "(( " + "( red { } ) " * 14 + "))"
        self.refused(desk, TooMany, f"number band {band}")
        self.refused(desk, NoFit, f"number band (( {'( red { } ) ' * 13}red ))", path=(13,))
        self.refused(desk, NoNames, "named mob 0")
        self.check(desk, "named wood 3", "16")

    def test_the_classes_of_all_refusals(self):
        for kind in (NoText, Twice, NoClass, Hollow, Round, NoFit, TooMany, NoSuch, NoNames, NoLine, NoBook):
            self.assertEqual(kind.__bases__, (FigureError,))
            self.assertTrue(issubclass(kind, ValueError))


class NothingChanged(Checked):

    REFUSED = (
        "", "make now", "rule tree bead red", "rule Tree bead red", "rule x of", "drop x", "drop", "count x 3", "count tree 41",
        "list tree 10", "figure tree 3 2", "named mob 3", "number tree red", "fits tree of", "part tree x 3", "rule x",
    )

    def test_what_is_refused_changes_nothing(self):
        behind = ANSWERED + ("make", "list rows 3", "rule late tree by tree", "make", "list late 4", "drop late", "drop tree")
        plain_desk, shaken_desk = desk_of(*TREES), desk_of(*TREES)
        for line in behind:
            for wrong in self.REFUSED:
                with self.assertRaises(FigureError):
                    shaken_desk.said(wrong)
            self.assertEqual(shaken_desk.said(line), plain_desk.said(line), line)

    def test_a_book_that_is_refused_leaves_the_one_before(self):
        desk = made_desk()
        before = [desk.said(line) for line in ANSWERED[1:-2]]
        for rule, kind in (("rule bad nowhere", NoClass), ("rule bad row of nothing", Hollow), ("rule bad bad", Round)):
            desk.said(rule)
            self.refused(desk, kind, "make")
            self.assertEqual([desk.said(line) for line in ANSWERED[1:-2]], before)
            self.refused(desk, NoClass, "count bad 3", name="bad")
            self.check(desk, "drop bad", str(len(TREES)))
        self.check(desk, "make", "tree wood mob band none two rows")

    def test_the_book_stays_until_another_one_is_made(self):
        desk = made_desk()
        before = [desk.said(line) for line in ANSWERED[1:-2]]
        for line in ("drop tree", "drop rows", "rule tree nothing", "rule x bead red", "drop wood", "drop mob"):
            desk.said(line)
            self.assertEqual([desk.said(line) for line in ANSWERED[1:-2]], before)
        desk.said("drop band")
        self.assertEqual(desk.said("make"), "none two tree x")
        self.check(desk, "count tree 0", "1")
        self.refused(desk, NoClass, "count wood 0", name="wood")
        for name in ("none", "two", "tree", "x"):
            desk.said(f"drop {name}")
        self.refused(desk, NoBook, "make")
        self.check(desk, "count tree 0", "1")

    def test_two_desks_keep_apart(self):
        one, other = Desk(), Desk()
        one.said("rule a bead red")
        self.check(other, "rule a bead blue", "1")
        one.said("make")
        self.refused(other, NoBook, "count a 1")
        other.said("make")
        self.assertEqual((one.said("list a 1"), other.said("list a 1")), ("red", "blue"))

    def test_the_line_by_its_name(self):
        self.assertEqual(Desk().said(line="plain red"), "red")
        self.assertEqual(set(WORDS), {line.split()[0] for line in ANSWERED})
