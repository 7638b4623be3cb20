"""How many rows, bags, choices and rings there are of each size, by how many things there are of each size."""


def row_counts(a):
    """The counts of rows of things that are counted by a."""
    rows = [1]
    for size in range(1, len(a)):
        rows.append(sum([a[k] * rows[size - k] for k in range(1, size + 1)]))
    return rows


def bag_counts(a):
    """The counts of bags of things that are counted by a."""
    return poured_counts([0] + [sum(beads_by_divisor(a, k)) for k in range(1, len(a))])


def choice_counts(a):
    """The counts of choices, bags without twins, of things that are counted by a."""
    return poured_counts([0] + [signed_sum(a, k) for k in range(1, len(a))])


def ring_counts(a):
    """The counts of rings of things that are counted by a."""
    begun = begun_counts(a)
    rings = [0]
    for size in range(1, len(a)):
        turned = sum([sharing_none(k) * begun[size // k] for k in divisors(size)])
        rings.append(turned // size)
    return rings


def beads_by_divisor(a, k):
    """For each divisor d of k, rising, d times the number of things of size d."""
    return [d * a[d] for d in divisors(k)]


def signed_sum(a, k):
    """The sum of these over the divisors d of k, less where k / d is even."""
    signs = [1 if k // d % 2 == 1 else -1 for d in divisors(k)]
    return sum([sign * beads for sign, beads in zip(signs, beads_by_divisor(a, k))])


def poured_counts(c):
    """The list b of b[0] = 1 and n b[n] = the sum of c[k] b[n - k], k from 1 to n."""
    counts = [1]
    for size in range(1, len(c)):
        total = sum([c[k] * counts[size - k] for k in range(1, size + 1)])
        counts.append(total // size)
    return counts


def begun_counts(a):
    """For each size how many rows there are with one of the first part's beads marked."""
    rows = row_counts(a)
    return [sum([i * a[i] * rows[size - i] for i in range(1, size + 1)]) for size in range(len(a))]


def divisors(n):
    """The divisors of a whole number from 1 on, rising."""
    return [d for d in range(1, n + 1) if n % d == 0]


def sharing_none(k):
    """How many of 1 to k share no divisor but 1 with k."""
    return len([one for one in range(1, k + 1) if shared(one, k) == 1])


def shared(one, other):
    """The greatest divisor that two whole numbers share."""
    while other > 0:
        one, other = other, one % other
    return one
