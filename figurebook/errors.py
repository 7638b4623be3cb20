"""The refusals: each one's class stands straight under FigureError."""


class FigureError(ValueError):
    """Any refusal."""


class NoText(FigureError):
    """A text is no rule's or no writing's; at is the number of the first word that cannot stand there."""

    def __init__(self, at):
        FigureError.__init__(self, f"the word {at} cannot stand there, or is missing")
        self.at = at


class Twice(FigureError):
    """A name stands ahead already."""

    def __init__(self, name):
        FigureError.__init__(self, f"the name {name} stands twice")
        self.name = name


class NoClass(FigureError):
    """A name is no class's."""

    def __init__(self, name):
        FigureError.__init__(self, f"no class is called {name}")
        self.name = name


class Hollow(FigureError):
    """In the rule of the class of this name a hollow rule is the part of a Row, Bag, Choice or Ring."""

    def __init__(self, name):
        FigureError.__init__(self, f"the rule of {name} takes a hollow rule any number of times")
        self.name = name


class Round(FigureError):
    """Classes lean on one another in a round; circle is the list of their names."""

    def __init__(self, circle):
        FigureError.__init__(self, "classes lean on one another in a round")
        self.circle = list(circle)


class NoFit(FigureError):
    """A writing does not fit a class; path leads to the part at fault."""

    def __init__(self, path):
        FigureError.__init__(self, "a part of the writing does not fit the class")
        self.path = path


class TooMany(FigureError):
    """There are more than may be asked for."""


class NoSuch(FigureError):
    """No figure has this number."""


class NoNames(FigureError):
    """A class that speaks of choices has no named count."""


class NoStep(FigureError):
    """A step does not fit; at is its number."""

    def __init__(self, at):
        FigureError.__init__(self, f"the step {at} does not fit")
        self.at = at


class NoLine(FigureError):
    """A desk does not understand this line."""

    def __init__(self, line):
        FigureError.__init__(self, f"this line is not understood: {line}")
        self.line = line


class NoBook(FigureError):
    """A desk has no book, or no rules to make one of."""
