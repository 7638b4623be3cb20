"""Books: classes of figures, told by rules under names."""

from figurebook.errors import Hollow, NoClass, Round, Twice
from figurebook.rules import Bag, Bead, By, Choice, Named, Nothing, Or, Ring, Row


class Book:
    """Classes by their names, with the rule of each; never changed once it is made."""

    def __init__(self, pairs):
        self.rule_by = rules_by_name(pairs)
        self.least_by = leasts_by_name(self.rule_by)
        refuse_hollow_parts(self.rule_by, self.least_by)
        self.leans_by = leans_by_name(self.rule_by, self.least_by)
        refuse_rounds(self.leans_by)
        self.speaks_by = {name: spoken_names(name, self.rule_by) for name in self.rule_by}

    def names(self):
        """The names of the classes, in the order in which they were handed in."""
        return list(self.rule_by)

    def rule(self, name):
        """The rule of a class."""
        self.need_class(name)
        return self.rule_by[name]

    def hollow(self, name):
        """Whether a class has a figure without beads."""
        return self.least(name) == 0

    def least(self, name):
        """The least number of beads of a class's figures, or None where it has none."""
        self.need_class(name)
        return self.least_by[name]

    def leans(self, name):
        """The names on which a class leans, in the order of the alphabet."""
        self.need_class(name)
        return list(self.leans_by[name])

    def speaks(self, name):
        """The names of which a class speaks, in the order of the alphabet."""
        self.need_class(name)
        return list(self.speaks_by[name])

    def rings(self, name):
        """Whether a class speaks of rings."""
        return any([has_ring(rule) for rule in self.spoken_rules(name)])

    def choices(self, name):
        """Whether a class speaks of choices."""
        return any([has_choice(rule) for rule in self.spoken_rules(name)])

    def spoken_rules(self, name):
        """The rules of a class, and of all classes of which it speaks."""
        return [self.rule(one) for one in [name] + self.speaks(name)]

    def need_class(self, name):
        """Refuses where a name is no class's."""
        if name not in self.rule_by:
            raise NoClass(name)


def rules_by_name(pairs):
    """The rules by their names; refuses a name told twice, and one in a rule that is no class's."""
    found = {}
    for name, rule in pairs:
        if name in found:
            raise Twice(name)
        found[name] = rule
    for rule in found.values():
        for name in rule.names():
            if name not in found:
                raise NoClass(name)
    return found


def leasts_by_name(rule_by):
    """The least of each class: None at first, and then reckoned anew until nothing changes."""
    leasts = {name: None for name in rule_by}
    while True:
        anew = {name: least_of(rule, leasts) for name, rule in rule_by.items()}
        if anew == leasts:
            return leasts
        leasts = anew


def least_of(rule, leasts):
    """The least number of beads of a rule's figures, by the leasts of the classes; None where it has none."""
    if isinstance(rule, Named):
        return leasts[rule.name]
    if isinstance(rule, Bead):
        return 1
    if isinstance(rule, (Nothing, Row, Bag, Choice)):
        return 0
    within = [least_of(part, leasts) for part in rule.inside()]
    if isinstance(rule, Or):
        return min([least for least in within if least is not None], default=None)
    # A By has each of its parts once, and the least ring has one part.
    if None in within:
        return None
    return sum(within)


def refuse_hollow_parts(rule_by, leasts):
    for name, rule in rule_by.items():
        if has_hollow_part(rule, leasts):
            raise Hollow(name)


def has_hollow_part(rule, leasts):
    """Whether in a rule, anywhere, a hollow one is the part of a Row, Bag, Choice or Ring."""
    if isinstance(rule, (Row, Bag, Choice, Ring)) and least_of(rule.part, leasts) == 0:
        return True
    return any([has_hollow_part(part, leasts) for part in rule.inside()])


def leans_by_name(rule_by, leasts):
    """For each class the names on which it leans, each once, in the order of the alphabet."""
    return {name: sorted(set(leaning_names(rule, leasts))) for name, rule in rule_by.items()}


def leaning_names(rule, leasts):
    """The names at such places of a rule that beside each By on the way there its other part is hollow."""
    if isinstance(rule, Named):
        return [rule.name]
    found = []
    for part in leaning_parts(rule, leasts):
        found.extend(leaning_names(part, leasts))
    return found


def leaning_parts(rule, leasts):
    """The parts of a rule that can have all its beads."""
    if not isinstance(rule, By):
        return rule.inside()
    sides = [(rule.one, rule.other), (rule.other, rule.one)]
    return [part for part, beside in sides if least_of(beside, leasts) == 0]


def refuse_rounds(leans_by):
    """Takes classes away that lean on none that is left; where some stay, there is a round among them."""
    left = list(leans_by)
    while left:
        leaning = {name: [one for one in leans_by[name] if one in left] for name in left}
        kept = [name for name in left if leaning[name]]
        if kept == left:
            raise Round(round_from(left[0], leaning))
        left = kept


def round_from(name, leaning):
    """The round to which one comes from a class, going to the first name on which each one leans."""
    gone = []
    while name not in gone:
        gone.append(name)
        name = leaning[name][0]
    return gone[gone.index(name):]


def spoken_names(name, rule_by):
    """All names of which a class speaks, in the order of the alphabet."""
    found = set()
    waiting = rule_by[name].names()
    while waiting:
        one = waiting.pop()
        if one not in found:
            found.add(one)
            waiting.extend(rule_by[one].names())
    return sorted(found)


def has_ring(rule):
    return isinstance(rule, Ring) or any([has_ring(part) for part in rule.inside()])


def has_choice(rule):
    return isinstance(rule, Choice) or any([has_choice(part) for part in rule.inside()])
