"""The number of ways to choose k of n, C(n, k) of 30."""

import itertools
import math
import unittest

from figurebook.labels import chosen


class Chosen(unittest.TestCase):

    def test_the_ends(self):
        for n in range(41):
            self.assertEqual(chosen(n, 0), 1)
            self.assertEqual(chosen(n, n), 1)

    def test_each_the_sum_of_the_two_above_it(self):
        for n in range(1, 41):
            for k in range(1, n):
                self.assertEqual(chosen(n, k), chosen(n - 1, k - 1) + chosen(n - 1, k), (n, k))

    def test_all_of_them(self):
        for n in range(41):
            for k in range(n + 1):
                told = chosen(n, k)
                self.assertIs(type(told), int)
                self.assertEqual(told, math.comb(n, k))
            self.assertEqual(sum(chosen(n, k) for k in range(n + 1)), 2 ** n)

    def test_gone_through(self):
        for n in range(8):
            for k in range(n + 1):
                self.assertEqual(chosen(n, k), len(list(itertools.combinations(range(n), k))))

    def test_the_greatest(self):
        self.assertEqual(chosen(40, 20), 137846528820)

    def test_arguments_by_their_names(self):
        self.assertEqual(chosen(n=5, k=2), 10)
