"""Whether a writing is one of a class, and which part is at fault where it is not."""

from figurebook.figures import parts_of, plain_key
from figurebook.rules import Bag, Bead, By, Choice, Named, Nothing, Or, Ring, Row


def at_fault(book, name, writing):
    """The path of the first part that does not fit the class, or None where the writing fits."""
    # What waits last is gone through first; a list, since writings may lie some hundred within one another.
    waiting = [(book.rule(name), writing, ())]
    while waiting:
        rule, part, path = waiting.pop()
        if rule is None:
            if has_twins(part):
                return path
            continue
        rules = rules_of_parts(bare_rule(book, rule), part)
        if rules is None:
            return path
        if part[0] == "choice":
            # Waits below its parts, so that they all come first.
            waiting.append((None, part, path))
        waiting.extend(waiting_parts(rules, part, path))
    return None


def waiting_parts(rules, writing, path):
    """The parts of a writing with their rules and paths, the last one first."""
    found = [(rules[number], part, path + (number,)) for number, part in enumerate(parts_of(writing))]
    return found[::-1]


def bare_rule(book, rule):
    """The rule itself where it is none of a name, else that of the class. No round is in a book, so this ends."""
    while isinstance(rule, Named):
        rule = book.rule(rule.name)
    return rule


def rules_of_parts(rule, writing):
    """The rules that the parts of a writing must fit, in their order; None where the writing is at fault itself."""
    kind = writing[0]
    if isinstance(rule, Or):
        sides = {"left": [rule.one], "right": [rule.other]}
        return sides.get(kind)
    if kind != kind_asked(rule):
        return None
    if kind == "bead" and writing[1] != rule.colour:
        return None
    if kind == "ring" and len(parts_of(writing)) == 0:
        return None
    if isinstance(rule, By):
        return rule.inside()
    return rule.inside() * len(parts_of(writing))


def kind_asked(rule):
    """The kind of all figures of a rule that is neither an Or nor a Named."""
    if isinstance(rule, Nothing):
        return "nothing"
    if isinstance(rule, Bead):
        return "bead"
    if isinstance(rule, By):
        return "pair"
    if isinstance(rule, Row):
        return "row"
    if isinstance(rule, Bag):
        return "bag"
    if isinstance(rule, Choice):
        return "choice"
    return "ring"


def has_twins(choice):
    """Whether two parts of a choice have the same plain figure."""
    keys = sorted([plain_key(part) for part in parts_of(choice)])
    return any([key == beside for key, beside in zip(keys, keys[1:])])
