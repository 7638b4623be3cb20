"""Writings shown as texts, and read from them."""

from figurebook.errors import NoText
from figurebook.figures import folded, made_of
from figurebook.reading import Words

STARTS = {"(": "pair", "[": "row", "{": "bag", "<": "choice", "((": "ring", "left": "left", "right": "right"}
BRACKETS = {"pair": ("(", ")"), "row": ("[", "]"), "bag": ("{", "}"), "choice": ("<", ">"), "ring": ("((", "))")}
SIDES = ("left", "right")


def figure_text(figure):
    """The text of a figure or another writing."""
    return folded(figure, text_by)


def text_by(figure, texts):
    """The text of a figure, by those of its parts."""
    kind = figure[0]
    if kind == "bead":
        return figure[1]
    if kind in BRACKETS:
        first, last = BRACKETS[kind]
        return " ".join([first] + texts + [last])
    return " ".join([kind] + texts)


class Begun:
    """A writing of which not all words are read yet: its kind, and its parts so far."""

    def __init__(self, kind):
        self.kind = kind
        self.parts = []

    def full(self):
        """Whether no further part can stand in it."""
        return self.kind == "pair" and len(self.parts) == 2

    def may_end(self):
        """Whether its closing bracket can stand now."""
        return self.full() if self.kind == "pair" else self.kind in BRACKETS


def read_writing(text):
    """The writing of a text."""
    words = Words(text)
    # What stands last is what the next word stands in; a list, since some hundred may be begun at once.
    whole = Begun("whole")
    begun = [whole]
    while not whole.parts:
        read_word(words, begun)
    words.finish()
    return whole.parts[0]


def read_word(words, begun):
    """Reads one word: it ends what was begun last, or begins a writing, or is a writing by itself."""
    last = begun[-1]
    if last.may_end() and words.passed(BRACKETS[last.kind][1]):
        begun.pop()
        put_part(made_of(last.kind, last.parts), begun)
    elif last.full():
        raise NoText(words.at)
    elif words.ahead() in STARTS:
        begun.append(Begun(STARTS[words.ahead()]))
        words.need(words.ahead())
    elif words.passed("nothing"):
        put_part(("nothing",), begun)
    else:
        put_part(("bead", words.free_word()), begun)


def put_part(part, begun):
    """Puts a part into what was begun last; a left or right has no closing bracket, and ends with its part."""
    while begun[-1].kind in SIDES:
        part = made_of(begun.pop().kind, [part])
    begun[-1].parts.append(part)
