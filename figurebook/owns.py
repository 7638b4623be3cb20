"""A figure's own turns and pourings, and the ways to name its beads apart."""

from figurebook.figures import folded, plain_by, size_of


def own(writing):
    """How many turns and pourings lead the plain figure of a writing to itself."""
    return folded(writing, own_with_plain)[0]


def namings(writing):
    """The ways to give the beads of a writing unlike names."""
    return factorial(size_of(writing)) // own(writing)


def own_with_plain(writing, told):
    """The own ways of a writing, and its plain figure with the key, by those of its parts."""
    ways = 1
    for part in told:
        ways *= part[0]
    keys = [part[1][1] for part in told]
    if writing[0] in ("bag", "choice"):
        ways *= pourings_to_itself(keys)
    if writing[0] == "ring":
        ways *= turns_to_itself(keys)
    return (ways, plain_by(writing, [part[1] for part in told]))


def pourings_to_itself(keys):
    """In how many ways the parts of these keys change places with their twins."""
    ways = 1
    twins = 1
    ordered = sorted(keys)
    for before, key in zip(ordered, ordered[1:]):
        twins = twins + 1 if key == before else 1
        ways *= twins
    return ways


def turns_to_itself(keys):
    """At how many parts a ring of these keys can be begun with the same keys in their order, 1 without parts."""
    turns = [place for place in range(len(keys)) if keys[place:] + keys[:place] == keys]
    return max(len(turns), 1)


def factorial(n):
    """The product of 1 to n."""
    product = 1
    for factor in range(2, n + 1):
        product *= factor
    return product
