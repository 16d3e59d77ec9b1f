"""Points 2, 3, 20 and 21: kinds of orders, and counts of rows by listing, by joining and cutting."""

import unittest
from collections import Counter
from itertools import product
from math import comb, factorial

from swapstars.counts import count_table, counted, kinds, listed, orders_of
from swapstars.moves import least_rows
from swapstars.orders import great, kind
from tests.helper import FAR_OFF, all_rows, check_own, check_refused, exchanges, order_of, orders

HOW_MANY_KINDS = [1, 2, 3, 5, 7, 11, 15, 22, 30, 42]


def kinds_by_trial(n):
    """All kinds of n, by going through all ways to cut n ones in a line."""
    found = []
    for cuts in product([False, True], repeat=n - 1):
        lengths = [1]
        for cut in cuts:
            if cut:
                lengths.append(1)
            else:
                lengths[-1] += 1
        if lengths == sorted(lengths, reverse=True):
            found.append(lengths)
    return sorted(found)


def rows_to(n, most):
    """For 0, 1, .. exchanges how many rows lead to each order of n things, order by order."""
    found = [Counter({tuple(range(1, n + 1)): 1})]
    for step in range(most):
        reached = Counter()
        for order, many in found[-1].items():
            for a, b in exchanges(n):
                reached[tuple([{a: b, b: a}.get(thing, thing) for thing in order])] += many
        found.append(reached)
    return found


def by_kind(n):
    """All orders of n things, by their kinds."""
    found = {}
    for order in orders(n):
        found.setdefault(tuple(kind(order)), []).append(order)
    return found


class AllKinds(unittest.TestCase):
    def test_known_ones(self):
        self.assertEqual(kinds(1), [[1]])
        self.assertEqual(kinds(2), [[1, 1], [2]])
        self.assertEqual(kinds(3), [[1, 1, 1], [2, 1], [3]])
        self.assertEqual(kinds(4), [[1, 1, 1, 1], [2, 1, 1], [2, 2], [3, 1], [4]])

    def test_all_by_trial(self):
        for n in range(1, 11):
            self.assertEqual(kinds(n), kinds_by_trial(n))
            self.assertEqual(kinds(n), sorted(kinds(n)))
        self.assertEqual([len(kinds(n)) for n in range(1, 11)], HOW_MANY_KINDS)

    def test_they_are_the_kinds_of_orders(self):
        for n in range(1, 7):
            self.assertEqual([tuple(told) for told in kinds(n)], sorted(by_kind(n)))


class HowManyOrders(unittest.TestCase):
    def test_known_ones(self):
        self.assertEqual(orders_of([1]), 1)
        self.assertEqual(orders_of([2, 1]), 3)
        self.assertEqual(orders_of([2, 2]), 3)
        self.assertEqual(orders_of([2, 2, 1, 1]), 45)
        self.assertEqual(orders_of([1] * 10), 1)
        self.assertEqual(orders_of([10]), factorial(9))
        self.assertEqual(orders_of([2] * 5), 945)
        self.assertEqual(orders_of([4, 3, 2, 1]), factorial(10) // 24)

    def test_all_by_trial(self):
        for n in range(1, 8):
            for lengths, found in by_kind(n).items():
                self.assertEqual(orders_of(list(lengths)), len(found))

    def test_they_are_all_orders_together(self):
        for n in range(1, 11):
            told = [orders_of(lengths) for lengths in kinds(n)]
            self.assertEqual(sum(told), factorial(n))
            self.assertTrue(all(type(many) is int and many > 0 for many in told))


class CountsByListing(unittest.TestCase):
    def test_known_ones(self):
        self.assertEqual(listed([1], 0), 1)
        self.assertEqual(listed([1], 1), 0)
        self.assertEqual(listed([2], 5), 1)
        self.assertEqual(listed([3], 2), 3)
        self.assertEqual(listed([4], 3), 16)
        self.assertEqual(listed([4], 5), 640)
        self.assertEqual(listed([2, 2], 2), 2)

    def test_all_rows_gone_through(self):
        for n in range(1, 5):
            for many in range(6 if n < 4 else 5):
                reached = Counter(order_of(n, row) for row in all_rows(n, many))
                for lengths, found in by_kind(n).items():
                    for order in found:
                        self.assertEqual(listed(list(lengths), many), reached[order])

    def test_order_by_order(self):
        for n in range(1, 5):
            reached = rows_to(n, 5)
            for lengths, found in by_kind(n).items():
                for many in range(6):
                    self.assertEqual({reached[many][order] for order in found}, {listed(list(lengths), many)})

    def test_alike_to_those_by_joining_and_cutting(self):
        for n in range(1, 5):
            for lengths, many in product(kinds(n), range(6)):
                self.assertEqual(listed(lengths, many), counted(lengths, many))

    def test_more_exchanges(self):
        for n in range(1, 5):
            for lengths, many in product(kinds(n), [6, 7, 20, 21, -1, -2] + FAR_OFF):
                check_refused(self, "NoBound", listed, lengths, many)

    def test_more_things(self):
        for n in range(5, 11):
            for lengths, many in product(kinds(n), [0, 1, 5, 6, -1] + FAR_OFF):
                check_refused(self, "NoBound", listed, lengths, many)


class CountsByJoiningAndCutting(unittest.TestCase):
    def test_known_ones(self):
        self.assertEqual(counted([1], 0), 1)
        self.assertEqual(counted([1], 20), 0)
        self.assertEqual([counted([2], many) for many in range(5)], [0, 1, 0, 1, 0])
        self.assertEqual([counted([1, 1], many) for many in range(5)], [1, 0, 1, 0, 1])
        self.assertEqual([counted([2, 1], many) for many in range(6)], [0, 1, 0, 9, 0, 81])
        self.assertEqual([counted([3], many) for many in range(7)], [0, 0, 3, 0, 27, 0, 243])
        self.assertEqual(counted([10], 9), 10 ** 8)
        self.assertEqual(counted([1] * 10, 2), 45)

    def test_order_by_order(self):
        for n, most in [(1, 20), (2, 20), (3, 20), (4, 20), (5, 12), (6, 7)]:
            reached = rows_to(n, most)
            for lengths, found in by_kind(n).items():
                for many in range(most + 1):
                    self.assertEqual({reached[many][order] for order in found}, {counted(list(lengths), many)})

    def test_all_rows_together(self):
        for n in range(1, 11):
            for many in [0, 1, 2, 9, 19, 20]:
                told = sum(orders_of(lengths) * counted(lengths, many) for lengths in kinds(n))
                self.assertEqual(told, comb(n, 2) ** many)

    def test_rows_that_cannot_be(self):
        for n in range(1, 11):
            for lengths, many in product(kinds(n), [0, 1, 4, 7, 8, 20]):
                too_few = many < n - len(lengths)
                odd = (many - n + len(lengths)) % 2 == 1
                if too_few or odd or (n == 1 and many > 0):
                    self.assertEqual(counted(lengths, many), 0)
                else:
                    self.assertGreater(counted(lengths, many), 0)

    def test_least_rows(self):
        for n in range(1, 7):
            for lengths, found in by_kind(n).items():
                self.assertEqual(counted(list(lengths), n - len(lengths)), len(least_rows(found[-1])))
        for n in range(2, 11):
            self.assertEqual(counted(kind(great(n)), n - 1), n ** (n - 2))

    def test_counts_of_exchanges_out_of_bounds(self):
        for n in range(1, 11):
            for lengths, many in product(kinds(n), [21, 22, -1, -2, -20] + FAR_OFF):
                check_refused(self, "NoBound", counted, lengths, many)


class TablesOfCounts(unittest.TestCase):
    def test_known_ones(self):
        self.assertEqual(count_table(1, 0), [[1]])
        self.assertEqual(count_table(1, 3), [[1], [0], [0], [0]])
        self.assertEqual(count_table(2, 3), [[1, 0], [0, 1], [1, 0], [0, 1]])
        self.assertEqual(count_table(3, 3), [[1, 0, 0], [0, 1, 0], [3, 0, 3], [0, 9, 0]])
        self.assertEqual(count_table(10, 0), [[1] + [0] * 41])

    def test_they_have_the_counts_at_all_kinds(self):
        for n in range(1, 11):
            told = count_table(n, 20)
            self.assertEqual(len(told), 21)
            for many in [0, 1, 2, 3, 9, 10, 19, 20]:
                self.assertEqual(told[many], [counted(lengths, many) for lengths in kinds(n)])

    def test_to_fewer_exchanges(self):
        for n in [1, 2, 5, 10]:
            for many in range(21):
                self.assertEqual(count_table(n, many), count_table(n, 20)[:many + 1])

    def test_numbers_out_of_bounds(self):
        for n, many in product([0, 11, 12, -1, -10] + FAR_OFF, [0, 1, 20, 21, -1] + FAR_OFF):
            check_refused(self, "NoBound", count_table, n, many)
        for n, many in product([1, 2, 9, 10], [21, 22, -1, -20] + FAR_OFF):
            check_refused(self, "NoBound", count_table, n, many)


class WhatIsToldIsTheAskersOwn(unittest.TestCase):
    def test_kinds(self):
        for n in range(1, 11):
            check_own(self, kinds, n)

    def test_counts(self):
        for lengths in [[1], [2, 1], [1, 1, 1], [2, 2], [4]]:
            check_own(self, orders_of, lengths)
            for many in [0, 1, 5]:
                check_own(self, listed, lengths, many)
                check_own(self, counted, lengths, many)
        check_own(self, counted, [4, 3, 2, 1], 20)
        check_own(self, orders_of, [4, 3, 2, 1])

    def test_tables(self):
        for n, many in product([1, 2, 4, 10], [0, 1, 20]):
            check_own(self, count_table, n, many)

    def test_a_table_told_again_when_kinds_were_changed(self):
        due = count_table(4, 6)
        told = kinds(4)
        told[0].append(7)
        told.reverse()
        self.assertEqual(count_table(4, 6), due)
        self.assertEqual([counted(lengths, 6) for lengths in kinds(4)], due[6])


if __name__ == "__main__":
    unittest.main()
