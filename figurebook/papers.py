"""Steps that lead from one writing to another: they are walked, found, and looked through."""

from figurebook.errors import NoStep
from figurebook.figures import made_of, part_at, parts_of, plain_key


def walked(writing, steps):
    """The writing that the steps make, each done in what the ones ahead made."""
    for at, step in enumerate(steps):
        writing = after_step(writing, step)
        if writing is None:
            raise NoStep(at)
    return writing


def leads(one, other, steps):
    """Whether the steps can be walked from the one writing and make the other."""
    try:
        made = walked(one, steps)
    except NoStep:
        return False
    return made == other


def after_step(writing, step):
    """The writing that a step makes, or None where the step does not fit."""
    word, path, i = step
    part = part_at(writing, path)
    moved = None
    if part is not None and word == "swap":
        moved = swapped(part, i)
    if part is not None and word == "turn":
        moved = turned(part, i)
    return None if moved is None else put_at(writing, path, moved)


def swapped(part, i):
    """The bag or choice in which the parts i and i + 1 changed places, or None."""
    parts = parts_of(part)
    if part[0] not in ("bag", "choice") or i < 0 or i > len(parts) - 2:
        return None
    return made_of(part[0], parts[:i] + (parts[i + 1], parts[i]) + parts[i + 2:])


def turned(part, i):
    """The ring begun at its part i, or None."""
    parts = parts_of(part)
    if part[0] != "ring" or i < 0 or i > len(parts) - 1:
        return None
    return made_of("ring", parts[i:] + parts[:i])


def put_at(writing, path, part):
    """The writing with this part at a path that leads somewhere."""
    wholes = []
    whole = writing
    for number in path:
        wholes.append((whole, number))
        whole = parts_of(whole)[number]
    for whole, number in reversed(wholes):
        parts = list(parts_of(whole))
        parts[number] = part
        part = made_of(whole[0], parts)
    return part


def way(one, other):
    """Steps that lead from the one writing to the other, or None where their plain figures are unlike."""
    if plain_key(one) != plain_key(other):
        return None
    steps = []
    waiting = [((), one, other)]
    while waiting:
        path, part, goal = waiting.pop()
        moves, parts = moved_alike(part, goal)
        steps.extend([(word, path, i) for word, i in moves])
        # All steps at a path are taken ahead of those further in, so the parts' numbers stay what they are now.
        for number, (inner, beside) in enumerate(zip(parts, parts_of(goal))):
            waiting.append((path + (number,), inner, beside))
    return steps


def moved_alike(part, goal):
    """The moves that put a part's own parts, by their plain figures, as the goal's stand, and the parts so put."""
    if part[0] in ("bag", "choice"):
        return poured_alike(parts_of(part), parts_of(goal))
    if part[0] == "ring":
        return begun_alike(parts_of(part), parts_of(goal))
    return ([], parts_of(part))


def poured_alike(parts, goals):
    """The swaps that put parts as the goals stand, and the parts so put."""
    keyed = [(plain_key(part), part) for part in parts]
    moves = []
    for place, goal in enumerate([plain_key(part) for part in goals]):
        found = place
        while keyed[found][0] != goal:
            found += 1
        keyed.insert(place, keyed.pop(found))
        moves.extend([("swap", i) for i in range(found - 1, place - 1, -1)])
    return (moves, [part for key, part in keyed])


def begun_alike(parts, goals):
    """The turn that puts parts as the goals stand, if there must be one, and the parts so put."""
    keys = [plain_key(part) for part in parts]
    asked = [plain_key(part) for part in goals]
    start = 0
    while keys[start:] + keys[:start] != asked:
        start += 1
    moves = [] if start == 0 else [("turn", start)]
    return (moves, parts[start:] + parts[:start])
