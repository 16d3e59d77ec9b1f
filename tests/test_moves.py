"""Points 2, 3, 9, 10, 11 and 12: exchanges led past one another."""

import unittest
from fractions import Fraction
from itertools import product
from math import factorial

from swapstars.moves import between, least_rows, moved, to_star, walked
from swapstars.orders import great, kind, made, plain
from swapstars.rows import home, is_least, is_row, led, parts, star
from tests.helper import (all_rows, check_own, check_refused, check_truth, end_of, exchanges, order_of, orders,
                          some_least_rows, some_orders, some_rows)

FAR = 10 ** 29
NO_WAYS = ["", " ", "f", "Forth", "FORTH", "forth ", " back", "Back", "bac", "backs", "forthback", "forth,back",
           "1", "none", "ahead", "b" * 1000]


def carried(pair, other):
    """The exchange of the two things to which the other one leads those of the pair."""
    return (min(end_of(pair[0], [other]), end_of(pair[1], [other])),
            max(end_of(pair[0], [other]), end_of(pair[1], [other])))


def rows_to_move():
    """Rows of 4 and 12 things, with n."""
    short = [row for many in range(4) for row in all_rows(4, many)]
    return [(4, row) for row in short] + [(12, row) for row in some_rows(12, 12, 60)]


class OneMove(unittest.TestCase):
    def test_exchanges_that_share_a_thing(self):
        self.assertEqual(moved([(1, 2), (2, 3)], 1, "forth"), [(2, 3), (1, 3)])
        self.assertEqual(moved([(1, 2), (2, 3)], 1, "back"), [(1, 3), (1, 2)])
        self.assertEqual(moved([(1, 3), (1, 2)], 1, "forth"), [(1, 2), (2, 3)])
        self.assertEqual(moved([(1, 3), (1, 2)], 1, "back"), [(2, 3), (1, 3)])
        self.assertEqual(moved([(11, 12), (1, 12)], 1, "forth"), [(1, 12), (1, 11)])

    def test_exchanges_that_share_none(self):
        for way in ["forth", "back"]:
            self.assertEqual(moved([(1, 2), (3, 4)], 1, way), [(3, 4), (1, 2)])
            self.assertEqual(moved([(1, 4), (2, 3)], 1, way), [(2, 3), (1, 4)])

    def test_exchanges_that_are_alike(self):
        for way in ["forth", "back"]:
            self.assertEqual(moved([(1, 2), (1, 2)], 1, way), [(1, 2), (1, 2)])
            self.assertEqual(moved([(3, 9)] * 60, 30, way), [(3, 9)] * 60)

    def test_first_and_last_place(self):
        row = [(1, 2), (2, 3), (3, 4), (4, 5)]
        self.assertEqual(moved(row, 1, "forth"), [(2, 3), (1, 3), (3, 4), (4, 5)])
        self.assertEqual(moved(row, 1, "back"), [(1, 3), (1, 2), (3, 4), (4, 5)])
        self.assertEqual(moved(row, 3, "forth"), [(1, 2), (2, 3), (4, 5), (3, 5)])
        self.assertEqual(moved(row, 3, "back"), [(1, 2), (2, 3), (3, 5), (3, 4)])
        sixty = exchanges(12)[:60]
        self.assertEqual(moved(sixty, 59, "forth"), sixty[:58] + [sixty[59], carried(sixty[58], sixty[59])])
        self.assertEqual(moved(sixty, 1, "back"), [carried(sixty[1], sixty[0]), sixty[0]] + sixty[2:])

    def test_each_place_of_many_rows(self):
        for n, row in rows_to_move():
            for k in range(1, len(row)):
                s, t = row[k - 1], row[k]
                forth, back = moved(row, k, "forth"), moved(row, k, "back")
                self.assertEqual(forth, row[:k - 1] + [t, carried(s, t)] + row[k + 1:])
                self.assertEqual(back, row[:k - 1] + [carried(t, s), s] + row[k + 1:])
                self.assertEqual(moved(forth, k, "back"), row)
                self.assertEqual(moved(back, k, "forth"), row)

    def test_the_order_and_the_parts_stay(self):
        for n, row in rows_to_move():
            for k, way in product(range(1, len(row)), ["forth", "back"]):
                told = moved(row, k, way)
                check_truth(self, True, is_row(n, told))
                self.assertEqual(order_of(n, told), order_of(n, row))
                self.assertEqual(parts(n, told), parts(n, row))

    def test_places_where_there_are_no_two(self):
        for many in [0, 1, 2, 3, 11, 59, 60]:
            row = exchanges(12)[:many]
            for k, way in product([0, -1, -2, -many, 1 - many, many, many + 1, 60, 61, FAR, -FAR], ["forth", "back"]):
                if not 1 <= k < many:
                    check_refused(self, "NoMove", moved, row, k, way)
        check_refused(self, "NoMove", moved, [], 1, "forth")
        check_refused(self, "NoMove", moved, [(1, 2)], 1, "back")

    def test_texts_that_are_neither(self):
        for way in NO_WAYS:
            check_refused(self, "NoMove", moved, [(1, 2), (2, 3), (1, 3)], 1, way)
            check_refused(self, "NoMove", moved, [(1, 2), (2, 3), (1, 3)], 2, way)
            check_refused(self, "NoMove", moved, [(1, 2), (2, 3), (1, 3)], 3, way)
            check_refused(self, "NoMove", moved, [], 0, way)


class Walks(unittest.TestCase):
    def test_no_move(self):
        for row in [[], [(1, 2)], [(1, 2), (2, 3)], exchanges(12)[:60]]:
            self.assertEqual(walked(row, []), row)

    def test_known_ones(self):
        row = [(1, 2), (2, 3), (3, 4)]
        self.assertEqual(walked(row, [(1, "forth")]), [(2, 3), (1, 3), (3, 4)])
        self.assertEqual(walked(row, [(1, "forth"), (2, "forth")]), [(2, 3), (3, 4), (1, 4)])
        self.assertEqual(walked(row, [(2, "back"), (1, "back")]), [(1, 4), (1, 2), (2, 3)])
        self.assertEqual(walked(row, [(1, "forth"), (2, "back")]), [(2, 3), (1, 4), (1, 3)])

    def test_moves_one_behind_another(self):
        moves = [(at * at % 5 + 1, "forth" if at % 3 else "back") for at in range(40)]
        for row in some_rows(12, 40, 60):
            if len(row) > 5:
                reached = row
                for k, way in moves:
                    reached = moved(reached, k, way)
                self.assertEqual(walked(row, moves), reached)

    def test_there_and_back_again(self):
        row = exchanges(12)[:60]
        there = [(at * 7 % 59 + 1, "back" if at % 4 == 1 else "forth") for at in range(1000)]
        behind = [(k, {"forth": "back", "back": "forth"}[way]) for k, way in there[::-1]]
        self.assertNotEqual(walked(row, there), row)
        self.assertEqual(walked(row, there + behind), row)

    def test_a_move_that_cannot_be_done(self):
        row = [(1, 2), (2, 3), (3, 4), (1, 4)]
        good = [(1, "forth"), (3, "back"), (2, "forth")]
        for wrong in [(0, "forth"), (4, "forth"), (4, "back"), (5, "back"), (-1, "forth"), (FAR, "back"), (1, "Forth"),
                      (2, ""), (0, "none")]:
            for at in range(len(good) + 1):
                check_refused(self, "NoMove", walked, row, good[:at] + [wrong] + good[at:])
            check_refused(self, "NoMove", walked, row, [wrong])
            check_refused(self, "NoMove", walked, row, good * 500 + [wrong])

    def test_rows_in_which_nothing_can_be_moved(self):
        check_refused(self, "NoMove", walked, [], [(1, "forth")])
        check_refused(self, "NoMove", walked, [(1, 2)], [(1, "back")])


def least_rows_to_walk():
    """Least rows of up to 8 things, with n: all of up to 4 things, and some more."""
    found = [(n, row) for n in range(1, 5) for many in range(n) for row in all_rows(n, many) if is_least(n, row)]
    chosen = [great(8), plain(8), made(8, [[1, 8], [2, 7], [3, 6], [4, 5]]), made(8, [[1, 7, 3, 5], [2, 8, 6, 4]]),
              made(8, [[8, 7, 6, 5, 4, 3, 2, 1]]), made(8, [[2, 5, 8], [3, 7]]), great(7), great(5)]
    for order in chosen + some_orders(8, 12) + some_orders(7, 8) + some_orders(6, 8):
        found += [(len(order), row) for row in some_least_rows(order, 8) + [home(order), star(order)]]
    return found


# Rows of 8 things that are not least.
NOT_LEAST = [[(1, 2)] * 2, [(1, 2), (1, 2), (3, 4)], [(1, 2), (1, 3), (2, 3)], [(5, 6), (7, 8), (1, 2), (5, 6)],
             star(great(8)) + [(1, 2)], [(1, 2)] * 60]


class WalksOfLeastRows(unittest.TestCase):
    def check_walk(self, moves, row, due):
        """The moves are a walk, each move of which can be done, from the row to the one that is due."""
        self.assertIs(type(moves), list)
        self.assertLessEqual(len(moves), 2000)
        for move in moves:
            self.assertIs(type(move), tuple)
            k, way = move
            self.assertIs(type(k), int)
            self.assertIn(k, range(1, len(row)))
            self.assertIn(way, ["forth", "back"])
        self.assertEqual(walked(row, moves), due)

    def test_to_the_star(self):
        for n, row in least_rows_to_walk():
            self.check_walk(to_star(n, row), row, star(order_of(n, row)))

    def test_to_the_star_of_all_least_rows_of_great_rounds(self):
        for n in [5, 6]:
            for row in least_rows(great(n)):
                self.check_walk(to_star(n, row), row, [(1, thing) for thing in range(2, n + 1)])

    def test_from_the_star_itself(self):
        for order in orders(4) + some_orders(8, 20):
            self.check_walk(to_star(len(order), star(order)), star(order), star(order))

    def test_things_beyond_eight(self):
        for order in [great(12)] + some_orders(12, 6) + some_orders(9, 6):
            for row in some_least_rows(order, 6):
                self.check_walk(to_star(len(order), row), row, star(order))

    def test_from_one_to_another(self):
        by_order = {}
        for n, row in least_rows_to_walk():
            by_order.setdefault(order_of(n, row), []).append(row)
        self.assertGreater(len(by_order), 40)
        for order, rows in by_order.items():
            for one, other in product(rows[:12], rows[-12:]):
                self.check_walk(between(len(order), one, other), one, other)

    def test_from_one_to_itself(self):
        for n, row in least_rows_to_walk():
            self.check_walk(between(n, row, list(row)), row, row)
        for row in [[], star(great(8))]:
            self.check_walk(between(8, row, row), row, row)

    def test_not_least_to_the_star(self):
        for row in NOT_LEAST:
            check_refused(self, "NotLeast", to_star, 8, row)
        for n in [2, 3]:
            for many in range(5):
                for row in all_rows(n, many):
                    if not is_least(n, row):
                        check_refused(self, "NotLeast", to_star, n, row)

    def test_not_least_goes_ahead_of_unlike(self):
        for row in NOT_LEAST:
            check_refused(self, "NotLeast", between, 8, row, row)
            for other in [[], [(1, 2)], [(1, 3)], star(led(8, row)), star(great(8)), NOT_LEAST[0], NOT_LEAST[4]]:
                check_refused(self, "NotLeast", between, 8, row, other)
                check_refused(self, "NotLeast", between, 8, other, row)

    def test_least_rows_of_unlike_orders(self):
        check_refused(self, "Unlike", between, 3, [(1, 2), (1, 3)], [(1, 3), (1, 2)])
        check_refused(self, "Unlike", between, 2, [], [(1, 2)])
        check_refused(self, "Unlike", between, 2, [(1, 2)], [])
        check_refused(self, "Unlike", between, 8, [(1, 2), (3, 4)], [(1, 3), (2, 4)])
        for one, other in product(orders(3), orders(3)):
            if one != other:
                check_refused(self, "Unlike", between, 3, star(one), home(other))

    def test_least_rows_of_unlike_counts_of_things(self):
        for many in range(1, 8):
            check_refused(self, "Unlike", between, 8, star(great(many)), star(great(8)))
            check_refused(self, "Unlike", between, 8, home(great(8)), star(great(many)))


def least_by_trial(n):
    """For each order of n things its least rows, by going through all rows."""
    found = {}
    for many in range(n):
        reached = {}
        for row in all_rows(n, many):
            reached.setdefault(order_of(n, row), []).append(row)
        for order, rows in reached.items():
            found.setdefault(order, sorted(rows))
    return found


def product_told(order):
    """How many least rows an order has, by the product of 12."""
    lengths = kind(order)
    told = Fraction(factorial(len(order) - len(lengths)))
    for length in lengths:
        told *= Fraction(length) ** (length - 2) / factorial(length - 1)
    return told


class AllLeastRows(unittest.TestCase):
    def test_known_ones(self):
        self.assertEqual(least_rows((1,)), [[]])
        self.assertEqual(least_rows((2, 1)), [[(1, 2)]])
        self.assertEqual(least_rows((2, 3, 1)), [[(1, 2), (1, 3)], [(1, 3), (2, 3)], [(2, 3), (1, 2)]])
        self.assertEqual(least_rows((2, 1, 4, 3)), [[(1, 2), (3, 4)], [(3, 4), (1, 2)]])
        self.assertEqual(least_rows((1, 3, 2)), [[(2, 3)]])

    def test_the_plain_order(self):
        for n in range(1, 7):
            self.assertEqual(least_rows(plain(n)), [[]])

    def test_all_by_trial(self):
        for n in range(1, 6):
            found = least_by_trial(n)
            self.assertEqual(sorted(found), orders(n))
            for order in orders(n):
                self.assertEqual(least_rows(order), found[order])
                self.assertEqual(len(found[order]), product_told(order))

    def test_six_things(self):
        by_kind = {}
        for order in orders(6):
            by_kind.setdefault(tuple(kind(order)), []).append(order)
        self.assertEqual(len(by_kind), 11)
        for found in by_kind.values():
            for order in [found[0], found[len(found) // 2], found[-1]]:
                told = least_rows(order)
                self.assertEqual(told, sorted(told))
                self.assertEqual(len({tuple(row) for row in told}), len(told))
                self.assertEqual(len(told), product_told(order))
                for row in told:
                    self.assertEqual(order_of(6, row), order)
                    self.assertEqual(len(row), 6 - len(kind(order)))
                    check_truth(self, True, is_row(6, row))

    def test_how_many_of_great_rounds(self):
        self.assertEqual([len(least_rows(great(n))) for n in range(1, 7)], [1, 1, 3, 16, 125, 1296])


class WhatIsToldIsTheAskersOwn(unittest.TestCase):
    def test_moves_and_walks(self):
        row = [(1, 2), (2, 3), (3, 4), (5, 6)]
        for k, way in product([1, 2, 3], ["forth", "back"]):
            check_own(self, moved, row, k, way)
            check_own(self, moved, [(1, 2)] * 4, k, way)
        for moves in [[], [(1, "forth")], [(1, "forth"), (1, "back")], [(2, "back"), (3, "forth"), (1, "back")]]:
            check_own(self, walked, row, moves)
            check_own(self, walked, [(1, 2)] * 4, moves)
        check_own(self, walked, [], [])

    def test_walks_that_are_told(self):
        for row in [[], star(great(8)), home(made(8, [[8, 3, 1], [7, 2, 5, 4]])), some_least_rows(great(8), 1)[0]]:
            check_own(self, to_star, 8, row)
            check_own(self, between, 8, row, list(row))
            check_own(self, between, 8, row, star(led(8, row)))
            check_own(self, between, 8, star(led(8, row)), row)

    def test_all_least_rows(self):
        for order in [(1,), (2, 1), plain(6), (2, 1, 4, 3), great(4)]:
            check_own(self, least_rows, order)


if __name__ == "__main__":
    unittest.main()
