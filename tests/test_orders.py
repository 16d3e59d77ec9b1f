"""Points 2, 4 and 5: orders, their rounds and kinds."""

import unittest
from itertools import permutations

from swapstars.orders import back, great, is_order, kind, made, plain, rounds, then
from tests.helper import ODD_THINGS, check_own, check_refused, check_truth, orders, some_orders


class WhatIsAnOrder(unittest.TestCase):
    def test_orders_of_one_to_twelve_things(self):
        check_truth(self, True, is_order((1,)))
        check_truth(self, True, is_order((2, 1)))
        check_truth(self, True, is_order(tuple(range(1, 13))))
        check_truth(self, True, is_order(tuple(range(12, 0, -1))))

    def test_all_of_a_few_things_and_nothing_else_of_these_numbers(self):
        for order in orders(4):
            check_truth(self, True, is_order(order))
        for left_out in permutations(range(0, 6), 4):
            check_truth(self, sorted(left_out) == [1, 2, 3, 4], is_order(left_out))

    def test_counts_of_things(self):
        check_truth(self, False, is_order(()))
        check_truth(self, False, is_order(tuple(range(1, 14))))
        check_truth(self, False, is_order(tuple(range(1, 2001))))

    def test_other_things(self):
        for thing in ODD_THINGS:
            with self.subTest(thing=thing):
                check_truth(self, False, is_order(thing))

    def test_lists_are_none(self):
        check_truth(self, False, is_order([1]))
        check_truth(self, False, is_order([2, 1]))

    def test_truths_are_no_numbers(self):
        for thing in [(True,), (True, 2), (2, True), (False, 1), (2, True, 3), True, (3, 2, True)]:
            with self.subTest(thing=thing):
                check_truth(self, False, is_order(thing))

    def test_numbers_below_beyond_and_twice(self):
        for thing in [(0,), (2,), (0, 1), (1, 3), (1, -1), (1, 1), (2, 2), (1, 2, 2), (1, 10 ** 29)]:
            with self.subTest(thing=thing):
                check_truth(self, False, is_order(thing))

    def test_numbers_among_others(self):
        for other in [None, "2", (2,), [2], ""]:
            check_truth(self, False, is_order((1, other)))
            check_truth(self, False, is_order((other, 1)))

    def test_what_is_looked_at_stays(self):
        thing = ([2, [1]], 1)
        is_order(thing)
        self.assertEqual(thing, ([2, [1]], 1))


class PlainAndGreat(unittest.TestCase):
    def test_plain(self):
        self.assertEqual(plain(1), (1,))
        self.assertEqual(plain(3), (1, 2, 3))
        self.assertEqual(plain(12), (1, 2, 3, 4, 5, 6, 7, 8, 9, 10, 11, 12))

    def test_great(self):
        self.assertEqual(great(1), (1,))
        self.assertEqual(great(2), (2, 1))
        self.assertEqual(great(4), (2, 3, 4, 1))
        self.assertEqual(great(12), (2, 3, 4, 5, 6, 7, 8, 9, 10, 11, 12, 1))

    def test_all_are_orders(self):
        for n in range(1, 13):
            check_truth(self, True, is_order(plain(n)))
            check_truth(self, True, is_order(great(n)))


class OneAndThenAnother(unittest.TestCase):
    def test_the_one_goes_first(self):
        # 1 goes to 2, and from there to 3.
        self.assertEqual(then((2, 1, 3), (1, 3, 2)), (3, 1, 2))
        self.assertEqual(then((1, 3, 2), (2, 1, 3)), (2, 3, 1))

    def test_each_thing_of_all_orders_of_four(self):
        for one in orders(4):
            for other in orders(4):
                both = then(one, other)
                check_truth(self, True, is_order(both))
                for k in range(1, 5):
                    self.assertEqual(both[k - 1], other[one[k - 1] - 1])

    def test_edges(self):
        self.assertEqual(then((1,), (1,)), (1,))
        self.assertEqual(then(great(12), plain(12)), great(12))
        self.assertEqual(then(plain(12), great(12)), great(12))

    def test_unlike_counts(self):
        check_refused(self, "Unlike", then, (1,), (1, 2))
        check_refused(self, "Unlike", then, (1, 2), (1,))
        check_refused(self, "Unlike", then, plain(12), plain(11))
        check_refused(self, "Unlike", then, great(11), great(12))


class TheBack(unittest.TestCase):
    def test_known_ones(self):
        self.assertEqual(back((1,)), (1,))
        self.assertEqual(back((2, 3, 1)), (3, 1, 2))
        self.assertEqual(back(great(12)), (12, 1, 2, 3, 4, 5, 6, 7, 8, 9, 10, 11))

    def test_it_leads_home_either_way(self):
        for order in orders(5) + some_orders(12, 40):
            n = len(order)
            self.assertEqual(then(order, back(order)), plain(n))
            self.assertEqual(then(back(order), order), plain(n))
            self.assertIsInstance(back(order), tuple)


class RoundsAndKinds(unittest.TestCase):
    def test_known_rounds(self):
        self.assertEqual(rounds((1,)), [[1]])
        self.assertEqual(rounds((3, 1, 2)), [[1, 3, 2]])
        self.assertEqual(rounds((3, 1, 2, 4)), [[1, 3, 2], [4]])
        self.assertEqual(rounds((1, 4, 5, 2, 3)), [[1], [2, 4], [3, 5]])
        self.assertEqual(rounds((6, 5, 3, 1, 2, 4)), [[1, 6, 4], [2, 5], [3]])

    def test_one_long_round_and_none(self):
        self.assertEqual(rounds(great(12)), [list(range(1, 13))])
        self.assertEqual(rounds(back(great(12))), [[1] + list(range(12, 1, -1))])
        self.assertEqual(rounds(plain(12)), [[thing] for thing in range(1, 13)])

    def test_rounds_of_many_orders(self):
        for order in orders(5) + some_orders(12, 40):
            told = rounds(order)
            self.assertEqual(sorted(sum(told, [])), list(plain(len(order))))
            self.assertEqual(told, sorted(told))
            for found in told:
                self.assertEqual(found[0], min(found))
                self.assertEqual([order[thing - 1] for thing in found], found[1:] + found[:1])

    def test_kinds(self):
        self.assertEqual(kind((1,)), [1])
        self.assertEqual(kind(plain(4)), [1, 1, 1, 1])
        self.assertEqual(kind(great(12)), [12])
        self.assertEqual(kind((1, 4, 5, 2, 3)), [2, 2, 1])
        self.assertEqual(kind((1, 3, 4, 2)), [3, 1])
        self.assertEqual(kind((2, 1, 4, 5, 3, 6)), [3, 2, 1])

    def test_kinds_never_rise(self):
        for order in orders(5) + some_orders(12, 40):
            told = kind(order)
            self.assertEqual(told, sorted(told, reverse=True))
            self.assertEqual(sorted(told), sorted([len(found) for found in rounds(order)]))


class OrdersMadeOfRounds(unittest.TestCase):
    def test_known_ones(self):
        self.assertEqual(made(4, [[1, 3, 2], [4]]), (3, 1, 2, 4))
        self.assertEqual(made(1, [[1]]), (1,))
        self.assertEqual(made(12, [list(range(1, 13))]), great(12))

    def test_begun_at_any_thing_in_any_order_with_things_left_out(self):
        self.assertEqual(made(4, [[4], [2, 1, 3]]), (3, 1, 2, 4))
        self.assertEqual(made(4, [[3, 2, 1]]), (3, 1, 2, 4))
        self.assertEqual(made(5, [[5, 3], [4, 2]]), (1, 4, 5, 2, 3))
        self.assertEqual(made(1, []), (1,))
        self.assertEqual(made(12, []), plain(12))

    def test_rounds_make_the_order_again(self):
        for order in orders(5) + some_orders(12, 40):
            told = rounds(order)
            self.assertEqual(made(len(order), told), order)
            turned = [found[at % len(found):] + found[:at % len(found)] for at, found in enumerate(told)]
            self.assertEqual(made(len(order), turned[::-1]), order)
            self.assertEqual(made(len(order), [found for found in turned if len(found) > 1]), order)

    def test_an_empty_list(self):
        check_refused(self, "NoRounds", made, 3, [[]])
        check_refused(self, "NoRounds", made, 3, [[1, 2], []])
        check_refused(self, "NoRounds", made, 3, [[], [1, 2, 3]])

    def test_a_number_that_is_no_thing(self):
        for number in [0, -1, 4, 13, 10 ** 29, -10 ** 29]:
            check_refused(self, "NoRounds", made, 3, [[number]])
            check_refused(self, "NoRounds", made, 3, [[1, 2], [3, number]])
        check_refused(self, "NoRounds", made, 12, [[13]])

    def test_truths_are_no_things(self):
        check_refused(self, "NoRounds", made, 3, [[True, 2]])
        check_refused(self, "NoRounds", made, 3, [[False]])

    def test_a_thing_twice(self):
        check_refused(self, "NoRounds", made, 3, [[1, 1]])
        check_refused(self, "NoRounds", made, 3, [[1, 2, 1]])
        check_refused(self, "NoRounds", made, 3, [[2], [2]])
        check_refused(self, "NoRounds", made, 3, [[1, 3], [2, 3]])
        check_refused(self, "NoRounds", made, 12, [list(range(1, 13)), [12]])


class WhatIsToldIsTheAskersOwn(unittest.TestCase):
    def test_lists(self):
        for order in [(1,), (3, 1, 2, 4), plain(12), great(12)]:
            check_own(self, rounds, order)
            check_own(self, kind, order)

    def test_handed_lists_stay(self):
        check_own(self, made, 4, [[4], [2, 1, 3]])
        check_own(self, made, 4, [])
        check_own(self, is_order, ([1], [2]))


if __name__ == "__main__":
    unittest.main()
