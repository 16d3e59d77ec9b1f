"""Points 2, 3, 6, 7 and 8: rows of exchanges."""

import unittest
from itertools import product

from swapstars.orders import back, great, is_order, made, plain, rounds, then
from swapstars.rows import holes, home, is_least, is_row, led, parts, star
from tests.helper import (ODD_THINGS, all_rows, check_own, check_refused, check_truth, exchanges, order_of, orders,
                          some_orders, some_rows)


class WhatIsARow(unittest.TestCase):
    def test_rows(self):
        check_truth(self, True, is_row(2, [(1, 2)]))
        check_truth(self, True, is_row(4, [(1, 2), (1, 4), (1, 2), (3, 4)]))
        check_truth(self, True, is_row(12, exchanges(12)[:60]))
        check_truth(self, True, is_row(12, [(1, 12), (11, 12)]))

    def test_counts_of_exchanges(self):
        for n in [1, 2, 12]:
            check_truth(self, True, is_row(n, []))
        check_truth(self, True, is_row(2, [(1, 2)] * 60))
        check_truth(self, False, is_row(2, [(1, 2)] * 61))
        check_truth(self, False, is_row(12, exchanges(12)[:61]))

    def test_other_things(self):
        for n in [1, 2, 12]:
            for thing in ODD_THINGS:
                with self.subTest(n=n, thing=thing):
                    check_truth(self, False, is_row(n, thing))

    def test_exchanges_that_are_none(self):
        for wrong in [(2, 1), (1, 1), (3, 3), [1, 2], (1,), (1, 2, 3), (), None, "1-2", 12, (1, None), ("1", "2"),
                      ((1, 2), 3), ([1], 2), (1, [2]), (1, "2"), (None, None)]:
            with self.subTest(wrong=wrong):
                check_truth(self, False, is_row(12, [wrong]))
                check_truth(self, False, is_row(12, [(1, 2), wrong]))
                check_truth(self, False, is_row(12, [wrong, (1, 2)]))

    def test_truths_are_no_things(self):
        for wrong in [(True, 2), (False, 2), (False, True), (True, True), (1, True), True]:
            check_truth(self, False, is_row(12, [wrong]))

    def test_things_beyond(self):
        check_truth(self, False, is_row(3, [(1, 4)]))
        check_truth(self, True, is_row(4, [(1, 4)]))
        check_truth(self, False, is_row(1, [(1, 2)]))
        check_truth(self, False, is_row(12, [(12, 13)]))
        check_truth(self, False, is_row(12, [(0, 1)]))
        check_truth(self, False, is_row(12, [(-1, 1)]))
        check_truth(self, False, is_row(12, [(1, 10 ** 29)]))

    def test_a_tuple_of_exchanges(self):
        check_truth(self, False, is_row(2, ((1, 2),)))
        check_truth(self, False, is_row(2, ()))


class TheOrderOfARow(unittest.TestCase):
    def test_known_ones(self):
        self.assertEqual(led(2, [(1, 2)]), (2, 1))
        self.assertEqual(led(3, [(1, 2), (1, 3)]), (2, 3, 1))
        self.assertEqual(led(3, [(1, 3), (1, 2)]), (3, 1, 2))
        self.assertEqual(led(4, [(1, 2), (3, 4), (1, 2)]), (1, 2, 4, 3))

    def test_the_empty_row(self):
        for n in range(1, 13):
            self.assertEqual(led(n, []), plain(n))

    def test_each_thing_is_led_through_the_exchanges(self):
        for n, rows in [(3, all_rows(3, 4)), (12, some_rows(12, 60, 60))]:
            for row in rows:
                order = led(n, row)
                check_truth(self, True, is_order(order))
                self.assertEqual(order, order_of(n, row))

    def test_sixty_exchanges(self):
        self.assertEqual(led(2, [(1, 2)] * 60), (1, 2))
        self.assertEqual(led(2, [(1, 2)] * 59), (2, 1))

    def test_a_row_from_behind_leads_back(self):
        for row in all_rows(3, 3) + all_rows(3, 4):
            self.assertEqual(led(3, row[::-1]), back(led(3, row)))
        for row in some_rows(12, 40, 60):
            self.assertEqual(led(12, row[::-1]), back(led(12, row)))

    def test_one_row_behind_another(self):
        for one, other in zip(some_rows(12, 20, 30), some_rows(12, 20, 30)[::-1]):
            self.assertEqual(led(12, one + other), then(led(12, one), led(12, other)))


def hang_together(n, row, a, b):
    """Whether one comes from a to b over exchanges of the row."""
    reached = {a}
    for step in range(n):
        for pair in row:
            if reached & set(pair):
                reached |= set(pair)
    return b in reached


class PartsAndHoles(unittest.TestCase):
    def test_known_parts(self):
        self.assertEqual(parts(1, []), [[1]])
        self.assertEqual(parts(3, []), [[1], [2], [3]])
        self.assertEqual(parts(5, [(2, 5), (1, 3)]), [[1, 3], [2, 5], [4]])
        self.assertEqual(parts(5, [(4, 5), (2, 3), (3, 4)]), [[1], [2, 3, 4, 5]])
        self.assertEqual(parts(4, [(1, 2), (1, 2)]), [[1, 2], [3], [4]])
        self.assertEqual(parts(12, [(at, at + 1) for at in range(11, 0, -1)]), [list(range(1, 13))])
        self.assertEqual(parts(12, []), [[thing] for thing in range(1, 13)])

    def test_parts_of_many_rows(self):
        for n, rows in [(4, all_rows(4, 3)), (12, some_rows(12, 40, 14))]:
            for row in rows:
                told = parts(n, row)
                self.assertEqual(told, sorted(told))
                self.assertEqual(sorted(sum(told, [])), list(range(1, n + 1)))
                for part in told:
                    self.assertEqual(part, [b for b in range(1, n + 1) if hang_together(n, row, part[0], b)])

    def test_known_holes(self):
        self.assertEqual(holes(1, []), 0)
        self.assertEqual(holes(2, [(1, 2)]), 0)
        self.assertEqual(holes(2, [(1, 2), (1, 2)]), 0)
        self.assertEqual(holes(2, [(1, 2)] * 3), 1)
        self.assertEqual(holes(2, [(1, 2)] * 60), 29)
        self.assertEqual(holes(3, [(1, 2), (1, 3)]), 0)
        self.assertEqual(holes(3, [(1, 2), (1, 3), (1, 2), (1, 3)]), 1)
        self.assertEqual(holes(12, star(great(12))), 0)

    def test_holes_of_many_rows(self):
        many = 0
        for n, rows in [(3, all_rows(3, 3) + all_rows(3, 6)), (4, all_rows(4, 4)), (12, some_rows(12, 60, 60))]:
            for row in rows:
                if len(parts(n, row)) > 1:
                    check_refused(self, "Apart", holes, n, row)
                    continue
                many += 1
                told = holes(n, row)
                self.assertIs(type(told), int)
                self.assertGreaterEqual(told, 0)
                self.assertEqual(len(row), n + len(rounds(led(n, row))) - 2 + 2 * told)
        self.assertGreater(many, 500)

    def test_rows_that_do_not_hang_together(self):
        check_refused(self, "Apart", holes, 2, [])
        check_refused(self, "Apart", holes, 12, [])
        check_refused(self, "Apart", holes, 3, [(1, 2), (1, 2)])
        check_refused(self, "Apart", holes, 4, [(1, 2), (3, 4)])
        check_refused(self, "Apart", holes, 12, star(made(12, [list(range(1, 12))])))


def fewest_exchanges(n):
    """How many exchanges each order of n things takes at least, by going through the rows."""
    fewest = {plain(n): 0}
    last = [plain(n)]
    while last:
        further = []
        for order in last:
            for a, b in exchanges(n):
                reached = tuple([{a: b, b: a}.get(thing, thing) for thing in order])
                if reached not in fewest:
                    fewest[reached] = fewest[order] + 1
                    further.append(reached)
        last = further
    return fewest


class LeastRows(unittest.TestCase):
    def test_known_ones(self):
        check_truth(self, True, is_least(1, []))
        check_truth(self, True, is_least(12, []))
        check_truth(self, True, is_least(3, [(1, 2), (2, 3)]))
        check_truth(self, True, is_least(12, [(at, at + 1) for at in range(1, 12)]))
        check_truth(self, False, is_least(2, [(1, 2), (1, 2)]))
        check_truth(self, False, is_least(3, [(1, 2), (1, 3), (2, 3)]))
        check_truth(self, False, is_least(12, [(1, 2)] * 60))

    def test_none_of_fewer_exchanges_leads_there(self):
        for n in [1, 2, 3, 4]:
            fewest = fewest_exchanges(n)
            for many in range(5):
                for row in all_rows(n, many):
                    check_truth(self, many == fewest[led(n, row)], is_least(n, row))

    def test_parts_of_a_least_row_are_the_rounds(self):
        for row in all_rows(4, 2) + all_rows(4, 3):
            if is_least(4, row):
                self.assertEqual(parts(4, row), sorted([sorted(found) for found in rounds(led(4, row))]))


class StarRows(unittest.TestCase):
    def test_known_ones(self):
        self.assertEqual(star((1,)), [])
        self.assertEqual(star(plain(12)), [])
        self.assertEqual(star((2, 1)), [(1, 2)])
        self.assertEqual(star((3, 1, 2)), [(1, 3), (1, 2)])
        self.assertEqual(star((2, 3, 1)), [(1, 2), (1, 3)])
        self.assertEqual(star((1, 4, 5, 2, 3)), [(2, 4), (3, 5)])
        self.assertEqual(star((6, 5, 3, 1, 2, 4)), [(1, 6), (1, 4), (2, 5)])
        self.assertEqual(star(great(12)), [(1, thing) for thing in range(2, 13)])

    def test_they_lead_there_are_least_and_stand_so(self):
        for order in orders(1) + orders(3) + orders(6) + some_orders(12, 60):
            n, row = len(order), star(order)
            check_truth(self, True, is_row(n, row))
            self.assertEqual(led(n, row), order)
            check_truth(self, True, is_least(n, row))
            stands = []
            for found in rounds(order):
                for thing in found[1:]:
                    stands.append((found[0], thing))
            self.assertEqual(row, stands)


class HomeRows(unittest.TestCase):
    def test_known_ones(self):
        self.assertEqual(home((1,)), [])
        self.assertEqual(home(plain(12)), [])
        self.assertEqual(home((2, 1)), [(1, 2)])
        self.assertEqual(home((2, 3, 1)), [(1, 2), (1, 3)])
        self.assertEqual(home((3, 1, 2)), [(1, 2), (2, 3)])
        self.assertEqual(home((4, 3, 2, 1)), [(2, 3), (1, 4)])
        self.assertEqual(home(great(12)), [(1, thing) for thing in range(2, 13)])

    def test_just_one_rising_row_leads_to_each_order(self):
        for n in range(1, 7):
            choices = [[None] + [(a, b) for a in range(1, b)] for b in range(2, n + 1)]
            by_order = {}
            for chosen in product(*choices):
                row = [pair for pair in chosen if pair is not None]
                by_order.setdefault(led(n, row), []).append(row)
            self.assertEqual(sorted(by_order), orders(n))
            for order in orders(n):
                self.assertEqual(by_order[order], [home(order)])

    def test_they_lead_there_are_least_and_rise(self):
        for order in orders(6) + some_orders(12, 60):
            n, row = len(order), home(order)
            check_truth(self, True, is_row(n, row))
            self.assertEqual(led(n, row), order)
            check_truth(self, True, is_least(n, row))
            greater = [b for a, b in row]
            self.assertEqual(greater, sorted(set(greater)))


class WhatIsToldIsTheAskersOwn(unittest.TestCase):
    def test_rows_that_are_handed_in(self):
        for row in [[], [(1, 2)], [(1, 2), (1, 4), (3, 4)], [(1, 2), (1, 3), (1, 4)]]:
            check_own(self, led, 4, row)
            check_own(self, parts, 4, row)
            check_own(self, is_least, 4, row)
            check_own(self, is_row, 4, row)
        check_own(self, parts, 1, [])
        check_own(self, holes, 4, [(1, 2), (1, 3), (1, 4)])
        check_own(self, is_row, 4, [[1, 2], [[3]]])

    def test_rows_that_are_told(self):
        for order in [(1,), (3, 1, 2, 4), plain(12), great(12)]:
            check_own(self, star, order)
            check_own(self, home, order)


if __name__ == "__main__":
    unittest.main()
