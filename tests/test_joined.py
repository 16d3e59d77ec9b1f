"""Points 2, 3, 25 and 26: counts of the rows in which all things hang together."""

import unittest
from collections import Counter
from fractions import Fraction
from itertools import product
from math import comb, factorial

from swapstars.counts import count_table, counted, kinds
from swapstars.joined import by_holes, joined, least_counted, without_holes
from swapstars.moves import least_rows
from swapstars.orders import kind, made
from swapstars.rows import holes, parts
from tests.helper import FAR_OFF, all_rows, check_own, check_refused, exchanges, order_of, orders


def joined_parts(found, a, b):
    """The parts, as a tuple of tuples, with those of a and b joined."""
    both = sorted({thing for part in found if a in part or b in part for thing in part})
    return tuple(sorted([part for part in found if a not in part and b not in part] + [tuple(both)]))


def rows_by_parts(n, most):
    """For 0, 1, .. exchanges how many rows lead to each order with each parts, exchange by exchange."""
    told = [Counter({(tuple(range(1, n + 1)), tuple([(thing,) for thing in range(1, n + 1)])): 1})]
    for step in range(most):
        reached = Counter()
        for (order, found), many in told[-1].items():
            for a, b in exchanges(n):
                leads = tuple([{a: b, b: a}.get(thing, thing) for thing in order])
                reached[leads, joined_parts(found, a, b)] += many
        told.append(reached)
    return told


def all_parted(items):
    """All ways to part a list of items."""
    if not items:
        return [[]]
    rest = all_parted(items[1:])
    return ([[[items[0]]] + parted for parted in rest]
            + [parted[:at] + [[items[0]] + parted[at]] + parted[at + 1:] for parted in rest
               for at in range(len(parted))])


def mixed(some, others):
    """Counts of rows made of two, the places of which are chosen in all ways."""
    return [sum(comb(m, many) * some[many] * others[m - many] for many in range(m + 1)) for m in range(len(some))]


class RowsThatHangTogether(unittest.TestCase):
    def test_known_ones(self):
        self.assertEqual([joined([1], m) for m in range(4)], [1, 0, 0, 0])
        self.assertEqual([joined([1, 1], m) for m in range(6)], [0, 0, 1, 0, 1, 0])
        self.assertEqual([joined([2], m) for m in range(6)], [0, 1, 0, 1, 0, 1])
        self.assertEqual([joined([3], m) for m in range(5)], [0, 0, 3, 0, 27])
        self.assertEqual([joined([2, 1], m) for m in range(4)], [0, 0, 0, 8])
        self.assertEqual([joined([1, 1, 1], m) for m in range(5)], [0, 0, 0, 0, 24])
        self.assertEqual(joined([10], 9), 10 ** 8)
        self.assertEqual(joined([1] * 10, 17), 0)

    def test_all_rows_gone_through(self):
        for n, most in [(1, 3), (2, 6), (3, 6), (4, 4)]:
            for many in range(most + 1):
                found = Counter(order_of(n, row) for row in all_rows(n, many) if len(parts(n, row)) == 1)
                for order in orders(n):
                    self.assertEqual(joined(kind(order), many), found[order])

    def test_exchange_by_exchange(self):
        for n, most in [(1, 20), (2, 20), (3, 20), (4, 12), (5, 9)]:
            due = (tuple(range(1, n + 1)),)
            for many, reached in enumerate(rows_by_parts(n, most)):
                for order in orders(n)[::7 if n == 5 else 1]:
                    self.assertEqual(joined(kind(order), many), reached[order, due])

    def test_all_rows_parted_by_their_parts(self):
        for n in range(1, 7):
            table = count_table(n, 10)
            for at, lengths in enumerate(kinds(n)):
                told = [0] * 11
                for parted in all_parted(lengths):
                    counts = [1] + [0] * 10
                    for part in parted:
                        found = sorted(part, reverse=True)
                        counts = mixed(counts, [joined(found, many) for many in range(11)])
                    told = [one + other for one, other in zip(told, counts)]
                self.assertEqual(told, [counts[at] for counts in table])

    def test_one_round_always_hangs_together(self):
        for n, many in product(range(1, 11), [0, 1, 8, 9, 19, 20]):
            self.assertEqual(joined([n], many), counted([n], many))

    def test_rows_that_cannot_be(self):
        for n in range(2, 11):
            for lengths, many in product(kinds(n), [0, 1, 7, 8, 19, 20]):
                least = n + len(lengths) - 2
                told = joined(lengths, many)
                self.assertIs(type(told), int)
                if many < least or (many - least) % 2 == 1:
                    self.assertEqual(told, 0)
                else:
                    self.assertGreater(told, 0)
                    self.assertLessEqual(told, counted(lengths, many))

    def test_counts_of_exchanges_out_of_bounds(self):
        for n in range(1, 11):
            for lengths, many in product(kinds(n), [21, 22, -1, -2, -20] + FAR_OFF):
                check_refused(self, "NoBound", joined, lengths, many)


class CountsByHoles(unittest.TestCase):
    def test_known_ones(self):
        self.assertEqual([by_holes([1], g) for g in range(11)], [1] + [0] * 10)
        self.assertEqual([by_holes([2], g) for g in range(10)], [1] * 10)
        self.assertEqual([by_holes([1, 1], g) for g in range(10)], [1] * 10)
        self.assertEqual(by_holes([3], 0), 3)
        self.assertEqual(by_holes([3], 1), 27)
        self.assertEqual(by_holes([2, 1], 0), 8)

    def test_holes_of_all_rows_gone_through(self):
        for n, most in [(2, 6), (3, 6), (4, 4)]:
            found = Counter((order_of(n, row), holes(n, row)) for many in range(most + 1) for row in all_rows(n, many)
                            if len(parts(n, row)) == 1)
            for order in orders(n):
                for g in range((most - n - len(kind(order)) + 2) // 2 + 1):
                    self.assertEqual(by_holes(kind(order), g), found[order, g])

    def test_each_that_may_be_and_one_more(self):
        for n in range(1, 11):
            for lengths in kinds(n):
                least = n + len(lengths) - 2
                most = (20 - least) // 2
                for g in sorted({0, 1, most}):
                    self.assertEqual(by_holes(lengths, g), joined(lengths, least + 2 * g))
                for g in [most + 1, most + 2, 21, -1, -2, -10] + FAR_OFF:
                    check_refused(self, "NoBound", by_holes, lengths, g)


def product_without_holes(lengths):
    """The product of point 26, in parts of numbers."""
    n = sum(lengths)
    told = Fraction(factorial(n + len(lengths) - 2)) * Fraction(n) ** (len(lengths) - 3)
    for length in lengths:
        told *= Fraction(length ** length, factorial(length - 1))
    return told


def product_of_least(lengths):
    """The product of point 12, in parts of numbers."""
    told = Fraction(factorial(sum(lengths) - len(lengths)))
    for length in lengths:
        told *= Fraction(length) ** (length - 2) / factorial(length - 1)
    return told


def order_of_kind(lengths):
    """An order of the kind, its rounds turned about."""
    things = list(range(sum(lengths), 0, -1))
    return made(len(things), [things[sum(lengths[:at]):sum(lengths[:at + 1])] for at in range(len(lengths))])


class Products(unittest.TestCase):
    def test_known_ones_without_holes(self):
        self.assertEqual(without_holes([1]), 1)
        self.assertEqual(without_holes([1, 1]), 1)
        self.assertEqual(without_holes([2]), 1)
        self.assertEqual(without_holes([3]), 3)
        self.assertEqual(without_holes([2, 1]), 8)
        self.assertEqual(without_holes([1, 1, 1]), 24)
        self.assertEqual(without_holes([10]), 10 ** 8)
        self.assertEqual(without_holes([1] * 10), factorial(18) * 10 ** 7)

    def test_without_holes(self):
        for n in range(1, 11):
            for lengths in kinds(n):
                told = without_holes(lengths)
                self.assertIs(type(told), int)
                self.assertEqual(told, product_without_holes(lengths))
                self.assertEqual(told, by_holes(lengths, 0))

    def test_known_least_ones(self):
        self.assertEqual(least_counted([1]), 1)
        self.assertEqual(least_counted([1] * 10), 1)
        self.assertEqual(least_counted([2, 2]), 2)
        self.assertEqual(least_counted([3]), 3)
        self.assertEqual(least_counted([3, 2]), 9)
        self.assertEqual(least_counted([10]), 10 ** 8)

    def test_least_ones(self):
        for n in range(1, 11):
            for lengths in kinds(n):
                told = least_counted(lengths)
                self.assertIs(type(told), int)
                self.assertEqual(told, product_of_least(lengths))
                self.assertEqual(told, counted(lengths, n - len(lengths)))

    def test_all_least_rows(self):
        for n in range(1, 7):
            for lengths in kinds(n):
                self.assertEqual(least_counted(lengths), len(least_rows(order_of_kind(lengths))))


class WhatIsHandedInStays(unittest.TestCase):
    def test_kinds(self):
        for lengths in [[1], [2, 1], [1, 1, 1], [3, 2, 2, 1], [4, 3, 2, 1], [1] * 10]:
            for many in [0, 5, 20]:
                check_own(self, joined, lengths, many)
            check_own(self, by_holes, lengths, 0)
            check_own(self, by_holes, lengths, 1)
            check_own(self, without_holes, lengths)
            check_own(self, least_counted, lengths)


if __name__ == "__main__":
    unittest.main()
