"""The nine kinds of rules, their texts and their names. A rule is never changed once it is made."""


class Rule:
    """Any rule; only the nine classes under this one are made."""

    def inside(self):
        """The rules that this one is straight made of, in their order."""
        return []

    def names(self):
        """The names of all Nameds in this rule, each once, in the order of the alphabet."""
        found = set()
        for rule in self.inside():
            for name in rule.names():
                found.add(name)
        return sorted(found)


class Nothing(Rule):
    """The figure without beads alone."""

    def told(self):
        return "nothing"


class Bead(Rule):
    """One bead of a colour."""

    def __init__(self, colour):
        self.colour = colour

    def told(self):
        return f"bead {self.colour}"


class Or(Rule):
    """The figures of the one rule, and those of the other."""

    def __init__(self, one, other):
        self.one = one
        self.other = other

    def inside(self):
        return [self.one, self.other]

    def told(self):
        # The one part needs no brackets even where it is an Or: a text is taken from the left.
        return f"{self.one.told()} or {term_text(self.other)}"


class By(Rule):
    """A figure of the one rule beside one of the other."""

    def __init__(self, one, other):
        self.one = one
        self.other = other

    def inside(self):
        return [self.one, self.other]

    def told(self):
        # The one part needs no brackets where it is a By: a text is taken from the left.
        return f"{term_text(self.one)} by {factor_text(self.other)}"


class Row(Rule):
    """Figures of a rule in a row."""

    def __init__(self, part):
        self.part = part

    def inside(self):
        return [self.part]

    def told(self):
        return f"row of {factor_text(self.part)}"


class Bag(Rule):
    """Figures of a rule in a bag, in no order."""

    def __init__(self, part):
        self.part = part

    def inside(self):
        return [self.part]

    def told(self):
        return f"bag of {factor_text(self.part)}"


class Choice(Rule):
    """Figures of a rule in a bag without twins."""

    def __init__(self, part):
        self.part = part

    def inside(self):
        return [self.part]

    def told(self):
        return f"choice of {factor_text(self.part)}"


class Ring(Rule):
    """Figures of a rule in a ring, begun nowhere."""

    def __init__(self, part):
        self.part = part

    def inside(self):
        return [self.part]

    def told(self):
        return f"ring of {factor_text(self.part)}"


class Named(Rule):
    """The figures of the class of this name."""

    def __init__(self, name):
        self.name = name

    def names(self):
        return [self.name]

    def told(self):
        return self.name


def term_text(rule):
    """A rule's text for a place where an Or would be taken apart."""
    if isinstance(rule, Or):
        return f"( {rule.told()} )"
    return rule.told()


def factor_text(rule):
    """A rule's text for a place where an Or or a By would be taken apart."""
    if isinstance(rule, (Or, By)):
        return f"( {rule.told()} )"
    return rule.told()
