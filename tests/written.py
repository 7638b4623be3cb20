"""What the tests share of writings: small ones, all of them; steps; sizes, keys and plain figures told over again."""

import functools
import itertools

from figurebook.figures import part_at

KINDS = ("nothing", "bead", "left", "right", "pair", "row", "bag", "choice", "ring")
MANY = ("row", "bag", "choice", "ring")
RED, BLUE, NOTHING = ("bead", "red"), ("bead", "blue"), ("nothing",)


def parts_of(writing):
    if writing[0] in ("nothing", "bead"):
        return ()
    return writing[1] if writing[0] in MANY else writing[1:]


def with_parts(writing, parts):
    if writing[0] in ("nothing", "bead"):
        return writing
    return (writing[0], tuple(parts)) if writing[0] in MANY else (writing[0], *parts)


@functools.cache
def rows_of(many, colours=("red", "blue")):
    """All tuples of writings with so many tuples that are figures in all."""
    if many == 0:
        return [()]
    return [
        (one,) + others for first in range(1, many + 1)
        for one in writings_of(first, colours) for others in rows_of(many - first, colours)
    ]


@functools.cache
def writings_of(many, colours=("red", "blue")):
    """All writings with so many tuples that are figures, over some colours."""
    found = [(kind, parts) for parts in rows_of(many - 1, colours) for kind in MANY]
    if many == 1:
        found.append(("nothing",))
        found.extend(("bead", colour) for colour in colours)
    for parts in rows_of(many - 1, colours):
        if len(parts) == 1:
            found.extend([("left", *parts), ("right", *parts)])
        if len(parts) == 2:
            found.append(("pair", *parts))
    return found


def small_writings(most, colours=("red", "blue")):
    return [writing for many in range(1, most + 1) for writing in writings_of(many, colours)]


def paths_of(writing, path=()):
    """All paths that lead somewhere, each one ahead of its parts."""
    found = [path]
    for number, part in enumerate(parts_of(writing)):
        found.extend(paths_of(part, path + (number,)))
    return found


def put_at(writing, path, part):
    """The writing with another part at a path."""
    if path == ():
        return part
    parts = list(parts_of(writing))
    parts[path[0]] = put_at(parts[path[0]], path[1:], part)
    return with_parts(writing, parts)


def stepped(writing):
    """All writings that come of one by a single swap or turn."""
    found = []
    for path in paths_of(writing):
        kind, parts = part_at(writing, path)[0], parts_of(part_at(writing, path))
        if kind in ("bag", "choice"):
            for i in range(len(parts) - 1):
                swapped = parts[:i] + (parts[i + 1], parts[i]) + parts[i + 2:]
                found.append(put_at(writing, path, (kind, swapped)))
        if kind == "ring":
            for i in range(len(parts)):
                found.append(put_at(writing, path, (kind, parts[i:] + parts[:i])))
    return found


def led_to(writing):
    """All writings to which steps lead from one."""
    found, waiting = {writing}, [writing]
    while waiting:
        for other in stepped(waiting.pop()):
            if other not in found:
                found.add(other)
                waiting.append(other)
    return found


@functools.cache
def size_told(writing):
    return 1 if writing[0] == "bead" else sum(size_told(part) for part in parts_of(writing))


@functools.cache
def key_told(writing):
    """The key of a figure, as the document tells it."""
    start = (size_told(writing), KINDS.index(writing[0]))
    if writing[0] == "bead":
        return start + (writing[1],)
    return start + tuple(key_told(part) for part in parts_of(writing))


@functools.cache
def plain_told(writing):
    """The plain figure, found among all orders and all turns of the parts."""
    parts = [plain_told(part) for part in parts_of(writing)]
    if writing[0] in ("bag", "choice"):
        parts = max(itertools.permutations(parts), key=lambda row: [key_told(part) for part in row])
    if writing[0] == "ring" and parts:
        turns = [parts[start:] + parts[:start] for start in range(len(parts))]
        parts = min(turns, key=lambda row: tuple(key_told(part) for part in row))
    return with_parts(writing, parts)


def deep(many, kinds, inmost=RED, beside=NOTHING):
    """A writing of so many within one another, their kinds taken in turn, this one ahead in each pair."""
    writing = inmost
    for at in range(many - 1):
        kind = kinds[at % len(kinds)]
        if kind == "pair":
            writing = ("pair", beside, writing)
        elif kind in MANY:
            writing = (kind, (writing,))
        else:
            writing = (kind, writing)
    return writing
