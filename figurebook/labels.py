"""The ways to choose some of many."""


def chosen(n, k):
    """The number of ways to choose k of n."""
    ways = 1
    for place in range(k):
        # Comes out even: it is the number of ways to choose place + 1 of n.
        ways = ways * (n - place) // (place + 1)
    return ways
