"""Counts of rows, bags, choices and rings (20, 21), prime rings (22), divisors."""

import itertools
import math
import unittest

from figurebook.series import bag_counts, choice_counts, divisors, ring_counts, row_counts, sharing_none

FOUR = (row_counts, bag_counts, choice_counts, ring_counts)
# Counts of things of the sizes 1 to 6.
SMALL = (
    (0, 0, 0, 0, 0, 0), (1, 0, 0, 0, 0, 0), (2, 0, 0, 0, 0, 0), (3, 0, 0, 0, 0, 0), (0, 1, 0, 0, 0, 0),
    (0, 2, 0, 1, 0, 0), (0, 0, 3, 0, 0, 0), (1, 1, 0, 0, 0, 0), (1, 1, 1, 1, 1, 1), (2, 1, 0, 3, 0, 1),
    (1, 2, 3, 4, 5, 6), (0, 3, 2, 0, 0, 7), (2, 2, 1, 0, 1, 0), (0, 0, 0, 0, 0, 9), (0, 0, 0, 0, 0, 1),
)


def things_of(a):
    """All things, as tuples (size, number)."""
    return [(size, number) for size, many in enumerate(a) for number in range(many)]


def rows_of(things, size):
    """All tuples of things of a size in all."""
    if size == 0:
        return [()]
    return [(thing,) + row for thing in things if thing[0] <= size for row in rows_of(things, size - thing[0])]


def turns_of(row):
    return [row[start:] + row[:start] for start in range(len(row))]


def gone_through(a):
    """How many rows, bags, choices, rings, and prime rings there are, all gone through one by one."""
    told = [[], [], [], [], []]
    for size in range(len(a)):
        rows = rows_of(things_of(a), size)
        bags = {tuple(sorted(row)) for row in rows}
        rings = {min(turns_of(row)) for row in rows if row}
        told[0].append(len(rows))
        told[1].append(len(bags))
        told[2].append(len([bag for bag in bags if len(set(bag)) == len(bag)]))
        told[3].append(len(rings))
        told[4].append(len([ring for ring in rings if len(set(turns_of(ring))) == len(ring)]))
    return told


def times(one, other):
    """The product of two lists of counts, as long as they are."""
    return [sum(one[k] * other[n - k] for k in range(n + 1)) for n in range(len(one))]


def by_sizes(a, ways):
    """Things of each size taken by themselves: ways(many, j) ways to take j of many."""
    told = [1] + [0] * (len(a) - 1)
    for size in range(1, len(a)):
        taken = [ways(a[size], n // size) if n % size == 0 else 0 for n in range(len(a))]
        told = times(told, taken)
    return told


def rows_by_lengths(a):
    told, power = [0] * len(a), [1] + [0] * (len(a) - 1)
    for _ in range(len(a)):
        told = [one + other for one, other in zip(told, power)]
        power = times(power, a)
    return told


def rings_by_lengths(a):
    """Of each length as many as the rows that a turn leaves alike, taken through all turns, over the length."""
    told = [0] * len(a)
    powers = [[1] + [0] * (len(a) - 1)]
    for length in range(1, len(a)):
        powers.append(times(powers[-1], a))
        for n in range(1, len(a)):
            alike = 0
            for turn in range(length):
                periods = math.gcd(turn, length)
                if n % (length // periods) == 0:
                    alike += powers[periods][n * periods // length]
            told[n] += alike // length
    return told


def primes_of(rings):
    """Of the counts of rings, those of prime ones: less those that are gone round more than once."""
    told = [0]
    for n in range(1, len(rings)):
        told.append(rings[n] - sum(told[n // d] for d in range(2, n + 1) if n % d == 0))
    return told


class Counts(unittest.TestCase):

    def test_against_all_gone_through(self):
        for counts in SMALL:
            a = [0, *counts]
            rows, bags, choices, rings, _ = gone_through(a)
            self.assertEqual(row_counts(a), rows, a)
            self.assertEqual(bag_counts(a), bags, a)
            self.assertEqual(choice_counts(a), choices, a)
            self.assertEqual(ring_counts(a), rings, a)

    def test_all_small_counts_gone_through(self):
        for counts in itertools.product(range(3), repeat=4):
            a = [0, *counts]
            self.assertEqual([deed(a) for deed in FOUR], gone_through(a)[:4], a)

    def test_longer_ones_gone_through(self):
        for a in ([0, 2] + [0] * 8, [0, 1, 1] + [0] * 7, [0, 0, 2, 0, 1, 0, 1, 0, 3, 0, 0, 0, 1]):
            self.assertEqual([deed(a) for deed in FOUR], gone_through(a)[:4], a)

    def test_by_the_sums_of_the_document(self):
        a = [0, 3, 1, 4, 1, 5, 9, 2, 6]
        r, b, e, g = (deed(a) for deed in FOUR)
        self.assertEqual((r[0], b[0], e[0], g[0]), (1, 1, 1, 0))
        plus = [0] + [sum(d * a[d] for d in range(1, k + 1) if k % d == 0) for k in range(1, 9)]
        signed = [0] + [sum(d * a[d] * (-1) ** (k // d + 1) for d in range(1, k + 1) if k % d == 0)
                        for k in range(1, 9)]
        m = [sum(i * a[i] * r[j - i] for i in range(1, j + 1)) for j in range(9)]
        for n in range(1, 9):
            self.assertEqual(r[n], sum(a[k] * r[n - k] for k in range(1, n + 1)))
            self.assertEqual(n * b[n], sum(plus[k] * b[n - k] for k in range(1, n + 1)))
            self.assertEqual(n * e[n], sum(signed[k] * e[n - k] for k in range(1, n + 1)))
            self.assertEqual(n * g[n], sum(sharing_none(k) * m[n // k] for k in range(1, n + 1) if n % k == 0))

    def test_one_thing_of_size_one(self):
        a = [0, 1] + [0] * 39
        self.assertEqual(row_counts(a), [1] * 41)
        self.assertEqual(bag_counts(a), [1] * 41)
        self.assertEqual(choice_counts(a), [1, 1] + [0] * 39)
        self.assertEqual(ring_counts(a), [0] + [1] * 40)

    def test_one_thing_of_each_size(self):
        a = [0] + [1] * 20
        self.assertEqual(row_counts(a), [1] + [2 ** n for n in range(20)])
        self.assertEqual(bag_counts(a), [1, 1, 2, 3, 5, 7, 11, 15, 22, 30, 42, 56, 77, 101, 135, 176, 231, 297, 385,
                                         490, 627])
        self.assertEqual(choice_counts(a), [1, 1, 1, 2, 2, 3, 4, 5, 6, 8, 10, 12, 15, 18, 22, 27, 32, 38, 46, 54, 64])

    def test_two_things_of_size_one(self):
        a = [0, 2] + [0] * 14
        self.assertEqual(row_counts(a), [2 ** n for n in range(16)])
        self.assertEqual(bag_counts(a), list(range(1, 17)))
        self.assertEqual(choice_counts(a), [1, 2, 1] + [0] * 13)
        self.assertEqual(ring_counts(a), [0, 2, 3, 4, 6, 8, 14, 20, 36, 60, 108, 188, 352, 632, 1182, 2192])

    def test_counts_of_none(self):
        for many in (1, 2, 7, 41):
            a = [0] * many
            for deed in (row_counts, bag_counts, choice_counts):
                self.assertEqual(deed(a), [1] + [0] * (many - 1))
            self.assertEqual(ring_counts(a), [0] * many)

    def test_a_list_of_one_number(self):
        self.assertEqual([deed([0]) for deed in FOUR], [[1], [1], [1], [0]])

    def test_things_of_the_last_size_alone(self):
        a = [0] * 40 + [7]
        for deed in (row_counts, bag_counts, choice_counts):
            self.assertEqual(deed(a), [1] + [0] * 39 + [7])
        self.assertEqual(ring_counts(a), [0] * 40 + [7])

    def test_a_shorter_list_tells_the_beginning(self):
        a = [0] + [n * n % 7 for n in range(1, 41)]
        for deed in FOUR:
            whole = deed(a)
            for many in range(1, 42):
                self.assertEqual(deed(a[:many]), whole[:many])

    def check_other_ways(self, a):
        self.assertEqual(row_counts(a), rows_by_lengths(a))
        self.assertEqual(bag_counts(a), by_sizes(a, lambda many, j: math.comb(many + j - 1, j) if j else 1))
        self.assertEqual(choice_counts(a), by_sizes(a, math.comb))
        self.assertEqual(ring_counts(a), rings_by_lengths(a))

    def test_great_counts_and_long_lists(self):
        self.check_other_ways([0] + [10 ** 30 - 1] * 40)
        self.check_other_ways([0] + [10 ** 30 - n ** 9 for n in range(1, 41)])
        self.check_other_ways([0] + [(7 ** n) % (10 ** 30) for n in range(1, 41)])
        self.check_other_ways([0] + [n % 2 * 10 ** 29 for n in range(1, 41)])
        self.check_other_ways([0, 0, 1, 0, 10 ** 29])
        self.check_other_ways([0] + [1] * 40)
        self.check_other_ways([0] + list(range(40)))


class Lists(unittest.TestCase):

    def test_as_long_as_the_one_handed_in_and_of_whole_numbers(self):
        for many in (1, 2, 3, 10, 40, 41):
            a = ([0, 2, 0, 1, 5] * 9)[:many]
            a = [0] + a[1:]
            for deed in FOUR:
                told = deed(a)
                self.assertIs(type(told), list)
                self.assertEqual(len(told), many)
                for number in told:
                    self.assertIs(type(number), int)
                    self.assertGreaterEqual(number, 0)

    def test_the_lists_are_the_askers_own(self):
        for before in ([0], [0, 0, 0], [0, 2, 1, 3], [0] + [1] * 40):
            for deed in FOUR:
                a = list(before)
                told = deed(a)
                self.assertEqual(a, before)
                first = list(told)
                told.append(5)
                told[0] = 17
                self.assertEqual(a, before)
                self.assertEqual(deed(a), first)
                a.append(3)
                a[0] = 1
                self.assertEqual(told, [17] + first[1:] + [5])
                self.assertEqual(deed(before), first)

    def test_arguments_by_their_names(self):
        self.assertEqual([deed(a=[0, 1]) for deed in FOUR], [[1, 1], [1, 1], [1, 1], [0, 1]])
        self.assertEqual(divisors(n=6), [1, 2, 3, 6])
        self.assertEqual(sharing_none(k=6), 2)


class PrimeRings(unittest.TestCase):

    def test_bags_of_prime_rings_are_as_many_as_rows(self):
        for a in [[0, *counts] for counts in SMALL] + [
            [0] + [1] * 40, [0, 2] + [0] * 39, [0] + [10 ** 30 - n for n in range(40)], [0] + list(range(40)), [0],
        ]:
            self.assertEqual(bag_counts(primes_of(ring_counts(a))), row_counts(a), a)

    def test_prime_rings_gone_through(self):
        for counts in SMALL:
            a = [0, *counts]
            self.assertEqual(primes_of(ring_counts(a)), gone_through(a)[4], a)


class Divisors(unittest.TestCase):

    def test_from_one_to_forty(self):
        for n in range(1, 41):
            told = divisors(n)
            self.assertIs(type(told), list)
            self.assertEqual(told, [d for d in range(1, 41) if d <= n and n % d == 0], n)
            for number in told:
                self.assertIs(type(number), int)
        self.assertEqual(divisors(1), [1])
        self.assertEqual(divisors(36), [1, 2, 3, 4, 6, 9, 12, 18, 36])
        self.assertEqual(divisors(37), [1, 37])
        self.assertEqual(divisors(40), [1, 2, 4, 5, 8, 10, 20, 40])

    def test_a_new_list_each_time(self):
        for n in range(1, 41):
            told = divisors(n)
            before = list(told)
            told.clear()
            self.assertEqual(divisors(n), before)
            told.append(7)
            self.assertEqual(divisors(n), before)

    def test_the_counts_do_not_hang_on_a_told_list(self):
        a = [0, 1, 2, 3, 4]
        before = [deed(a) for deed in FOUR]
        for n in range(1, 5):
            divisors(n).clear()
        self.assertEqual([deed(a) for deed in FOUR], before)


class SharingNone(unittest.TestCase):

    def test_from_one_to_forty(self):
        for k in range(1, 41):
            told = sharing_none(k)
            self.assertIs(type(told), int)
            alone = [one for one in range(1, k + 1) if not any(one % d == 0 and k % d == 0 for d in range(2, k + 1))]
            self.assertEqual(told, len(alone), k)
        self.assertEqual([sharing_none(k) for k in range(1, 13)], [1, 1, 2, 2, 4, 2, 6, 4, 6, 4, 10, 4])

    def test_the_sum_over_the_divisors(self):
        for n in range(1, 41):
            self.assertEqual(sum(sharing_none(d) for d in divisors(n)), n)
