"""Figures and other writings: their parts, sizes and keys, and the plain figure of a writing."""

KINDS = ("nothing", "bead", "left", "right", "pair", "row", "bag", "choice", "ring")
MANY = ("row", "bag", "choice", "ring")


def parts_of(writing):
    """The parts of a writing, in the order of their numbers in paths."""
    kind = writing[0]
    if kind in MANY:
        return writing[1]
    if kind == "bead":
        return ()
    return writing[1:]


def made_of(kind, parts):
    """The writing of a kind, but no bead, that has these parts."""
    if kind in MANY:
        return (kind, tuple(parts))
    return (kind,) + tuple(parts)


def folded(writing, deed):
    """What deed(writing, told) tells, told being the list of what the deed told of the parts."""
    return folded_over(writing, parts_of, deed)


def folded_over(whole, parts, deed):
    """The same of anything whose parts are told by parts(whole).

    A loop, since figures may lie some hundred within one another.
    """
    order = []
    waiting = [whole]
    while waiting:
        one = waiting.pop()
        inner = parts(one)
        order.append((one, len(inner)))
        waiting.extend(inner)
    told = []
    for one, many in reversed(order):
        first = len(told) - many
        told[first:] = [deed(one, told[first:])]
    return told[0]


def size_of(figure):
    """How many beads are in a figure."""
    return folded(figure, size_by)


def size_by(figure, sizes):
    """The size of a figure, by those of its parts."""
    if figure[0] == "bead":
        return 1
    return sum(sizes)


def key_of(figure):
    """The key by which figures are ordered."""
    return folded(figure, key_by)


def key_by(figure, keys):
    """The key of a figure, by those of its parts."""
    if figure[0] == "bead":
        return (1, KINDS.index("bead"), figure[1])
    size = sum([key[0] for key in keys])
    return (size, KINDS.index(figure[0])) + tuple(keys)


def plain(writing):
    """The plain figure of a writing."""
    return plain_with_key(writing)[0]


def is_plain(writing):
    """Whether a writing is its own plain figure."""
    return key_of(writing) == plain_key(writing)


def plain_key(writing):
    """The key of the plain figure of a writing: alike just where the plain figures are."""
    return plain_with_key(writing)[1]


def plain_with_key(writing):
    """The plain figure of a writing, and its key."""
    return folded(writing, plain_by)


def plain_by(writing, told):
    """The plain figure of a writing and its key, by those of its parts."""
    kind = writing[0]
    if kind == "bead":
        return (writing, key_by(writing, []))
    if kind in ("bag", "choice"):
        told = sorted(told, key=lambda row: row[1], reverse=True)
    if kind == "ring":
        start = least_start([key for part, key in told])
        told = told[start:] + told[:start]
    figure = made_of(kind, [part for part, key in told])
    return (figure, key_by(figure, [key for part, key in told]))


def least_start(keys):
    """The place at which a ring of these keys is begun, so that the list of them is the least."""
    start = 0
    least = keys
    for place in range(1, len(keys)):
        turned = keys[place:] + keys[:place]
        if turned < least:
            start = place
            least = turned
    return start


def part_at(writing, path):
    """The part of a writing to which a path leads, or None where it leads nowhere."""
    part = writing
    for number in path:
        parts = parts_of(part)
        if number < 0 or number >= len(parts):
            return None
        part = parts[number]
    return part
