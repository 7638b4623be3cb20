"""A desk: it keeps rules, makes a book of them, and answers lines of text."""

from figurebook.books import Book
from figurebook.errors import NoBook, NoClass, NoLine, TooMany, Twice
from figurebook.figures import plain, size_of
from figurebook.fits import at_fault
from figurebook.lists import listed
from figurebook.named import named
from figurebook.numbers import figure_of, number_of
from figurebook.owns import own
from figurebook.parting import parted
from figurebook.reading import is_word, read_rule
from figurebook.tally import Tally
from figurebook.writings import figure_text, read_writing

MOST_KEPT = 8
MOST_BEADS = 14
MOST_FIGURES = 30
FIGURES = "0123456789"

# What stands behind the first word of a line: a number here is the bound of a SIZE or TOP; "few" is a WRITING of few
# beads. RULE and WRITING stand last, since they are all further words.
FORMS = {
    "rule": ("name", "rule"),
    "drop": ("name",),
    "make": (),
    "count": ("name", 40),
    "named": ("name", 20),
    "list": ("name", 10),
    "figure": ("name", 14, "number"),
    "number": ("name", "few"),
    "fits": ("name", "writing"),
    "plain": ("writing",),
    "own": ("writing",),
    "part": ("name", "name", 40),
}
TEXTS = ("rule", "writing", "few")


class Desk:
    """Keeps tuples (name, rule), and the book that was made last."""

    def __init__(self):
        self.kept = []
        self.book = None

    def said(self, line):
        """The answer to a line."""
        values = values_of(line)
        deed = DEEDS[line.split(" ")[0]]
        return deed(self, values)

    def need_book(self):
        """The book that was made last, or a refusal."""
        if self.book is None:
            raise NoBook("no book was made")
        return self.book


def values_of(line):
    """What stands behind the first word of a line, read by its form: names, numbers, rules, writings."""
    words = line.split(" ")
    form = FORMS.get(words[0])
    if form is None:
        raise NoLine(line)
    # A name or a number with further words behind it is none, so too many words are refused as well.
    texts = texts_of(form, words[1:])
    if len(texts) != len(form) or not all([may_stand(slot, text) for slot, text in zip(form, texts)]):
        raise NoLine(line)
    values = [value_of(slot, text) for slot, text in zip(form, texts)]
    if "few" in form and size_of(values[-1]) > MOST_BEADS:
        raise NoLine(line)
    return values


def texts_of(form, words):
    """The texts that stand in the places of a form: in the last one all further words."""
    last = len(form) - 1
    if last < 0 or len(words) <= last:
        return words
    return words[:last] + [" ".join(words[last:])]


def may_stand(slot, text):
    """Whether a text can stand in its place, for all that is seen before a RULE or WRITING is read."""
    if slot in TEXTS:
        return True
    if slot == "name":
        return is_word(text)
    if not is_number(text):
        return False
    return slot == "number" or int(text) <= slot


def is_number(text):
    """Whether a text is a whole number, written without needless noughts."""
    if text == "" or len(text) > MOST_FIGURES:
        return False
    if len(text) > 1 and text[0] == "0":
        return False
    return all([sign in FIGURES for sign in text])


def value_of(slot, text):
    if slot == "name":
        return text
    if slot == "rule":
        return read_rule(text)
    if slot in TEXTS:
        return read_writing(text)
    return int(text)


def keep_rule(desk, values):
    name, rule = values
    if name in [one for one, other in desk.kept]:
        raise Twice(name)
    if len(desk.kept) == MOST_KEPT:
        raise TooMany(f"{MOST_KEPT} rules are kept")
    desk.kept.append((name, rule))
    return str(len(desk.kept))


def drop_rule(desk, values):
    name = values[0]
    left = [pair for pair in desk.kept if pair[0] != name]
    if len(left) == len(desk.kept):
        raise NoClass(name)
    desk.kept = left
    return str(len(left))


def make_book(desk, values):
    if len(desk.kept) == 0:
        raise NoBook("no rules are kept")
    desk.book = Book(desk.kept)
    return " ".join(desk.book.names())


def tell_count(desk, values):
    name, size = values
    return str(Tally(desk.need_book()).count(name, size))


def tell_named(desk, values):
    name, size = values
    return str(named(desk.need_book(), name, size))


def tell_list(desk, values):
    name, size = values
    figures = listed(desk.need_book(), name, size)
    if len(figures) == 0:
        return "none"
    return "; ".join([figure_text(figure) for figure in figures])


def tell_figure(desk, values):
    name, size, number = values
    return figure_text(figure_of(desk.need_book(), name, size, number))


def tell_number(desk, values):
    name, writing = values
    return str(number_of(desk.need_book(), name, writing))


def tell_fits(desk, values):
    name, writing = values
    path = at_fault(desk.need_book(), name, writing)
    if path is None:
        return "yes"
    return " ".join(["no"] + [str(number) for number in path])


def tell_plain(desk, values):
    return figure_text(plain(values[0]))


def tell_own(desk, values):
    return str(own(values[0]))


def tell_parted(desk, values):
    name, other_name, top = values
    book = desk.need_book()
    found = parted(book, name, book, other_name, top)
    if found is None:
        return "alike"
    return " ".join([str(number) for number in found])


DEEDS = {
    "rule": keep_rule,
    "drop": drop_rule,
    "make": make_book,
    "count": tell_count,
    "named": tell_named,
    "list": tell_list,
    "figure": tell_figure,
    "number": tell_number,
    "fits": tell_fits,
    "plain": tell_plain,
    "own": tell_own,
    "part": tell_parted,
}
