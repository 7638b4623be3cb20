"""Words, and rules read from their texts."""

from figurebook.errors import NoText
from figurebook.rules import Bag, Bead, By, Choice, Named, Nothing, Or, Ring, Row

LETTERS = "abcdefghijklmnopqrstuvwxyz"
LONGEST = 8
KEPT = ("nothing", "bead", "or", "by", "row", "bag", "choice", "ring", "of", "left", "right")
HOLDERS = ("row", "bag", "choice", "ring")


def is_word(text):
    """Whether a text can be a name or a colour."""
    if text == "" or len(text) > LONGEST or text in KEPT:
        return False
    return all([sign in LETTERS for sign in text])


class Words:
    """The words of a text, read one by one; at is the number of the next one."""

    def __init__(self, text):
        self.words = text.split(" ")
        self.at = 0

    def ahead(self):
        """The next word, or None where all are read."""
        if self.at == len(self.words):
            return None
        return self.words[self.at]

    def passed(self, word):
        """Whether the next word is this one; if so, it is read."""
        if self.ahead() != word:
            return False
        self.at += 1
        return True

    def need(self, word):
        """Reads this word, or refuses."""
        if not self.passed(word):
            raise NoText(self.at)

    def free_word(self):
        """Reads a name or a colour, or refuses."""
        word = self.ahead()
        if word is None or not is_word(word):
            raise NoText(self.at)
        self.at += 1
        return word

    def finish(self):
        """Refuses where a word is left."""
        if self.ahead() is not None:
            raise NoText(self.at)


def read_rule(text):
    """The rule of a text."""
    words = Words(text)
    rule = next_rule(words)
    words.finish()
    return rule


def next_rule(words):
    rule = next_term(words)
    while words.passed("or"):
        rule = Or(rule, next_term(words))
    return rule


def next_term(words):
    rule = next_factor(words)
    while words.passed("by"):
        rule = By(rule, next_factor(words))
    return rule


def next_factor(words):
    # A loop, since a text that is refused may have some hundred of these words within one another.
    holders = []
    while words.ahead() in HOLDERS:
        holder = words.ahead()
        words.need(holder)
        words.need("of")
        holders.append(holder)
    rule = next_plain_factor(words)
    for holder in reversed(holders):
        rule = held(holder, rule)
    return rule


def next_plain_factor(words):
    """Reads a factor that does not begin with row, bag, choice or ring."""
    if words.passed("nothing"):
        return Nothing()
    if words.passed("bead"):
        return Bead(words.free_word())
    if words.passed("("):
        rule = next_rule(words)
        words.need(")")
        return rule
    return Named(words.free_word())


def held(holder, part):
    """The Row, Bag, Choice or Ring of a rule, by its word."""
    if holder == "row":
        return Row(part)
    if holder == "bag":
        return Bag(part)
    if holder == "choice":
        return Choice(part)
    return Ring(part)
