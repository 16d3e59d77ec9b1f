"""Points 2, 3, 16, 17, 18 and 19: sharings, their other halves, and chains of them."""

import random
import unittest
from itertools import combinations, permutations, product

from swapstars.moves import least_rows
from swapstars.orders import great, rounds
from swapstars.rows import is_row, star
from swapstars.shares import beginnings, is_sharing, order_by, other_half, row_of_chain, sharings, within
from tests.helper import (ODD_THINGS, check_great_only, check_own, check_refused, check_truth, great_rows, order_of,
                          orders, some_least_rows)


def alone(n):
    return [[thing] for thing in range(1, n + 1)]


def together(n):
    return [list(range(1, n + 1))]


# With n.
SHARINGS = [(n, alone(n)) for n in range(1, 13)] + [(n, together(n)) for n in range(1, 13)] + [
    (3, [[1, 2], [3]]), (3, [[1, 3], [2]]), (3, [[1], [2, 3]]), (4, [[1, 4], [2, 3]]), (4, [[1, 2], [3, 4]]),
    (5, [[1, 3, 5], [2], [4]]), (6, [[1, 6], [2, 5], [3, 4]]), (6, [[1, 4, 6], [2, 3], [5]]),
    (12, [[1, 12], [2, 11], [3, 10], [4, 9], [5, 8], [6, 7]]), (12, [[1, 5, 9], [2, 3, 4], [6, 7, 8], [10, 11, 12]]),
    (12, [[1, 11, 12], [2, 4, 10], [3], [5, 6, 9], [7, 8]]), (12, [[1, 2, 3, 4, 5, 6], [7, 8, 9, 10, 11, 12]])]

# Things that are no sharing of n, each with n.
NO_SHARINGS = [
    # Parts that cross.
    (4, [[1, 3], [2, 4]]), (5, [[1, 3], [2, 4], [5]]), (5, [[1, 4], [2, 5], [3]]), (5, [[1], [2, 4], [3, 5]]),
    (5, [[1, 3, 5], [2, 4]]), (6, [[1, 2, 4], [3, 5, 6]]), (6, [[1, 5], [2, 3, 6], [4]]), (6, [[1, 4], [2, 5], [3, 6]]),
    (12, [[1, 3, 5, 7, 9, 11], [2, 4, 6, 8, 10, 12]]), (12, [[1, 2, 3, 4, 5, 7], [6, 8, 9, 10, 11, 12]]),
    # Parts that are empty, not rising, not sorted.
    (1, [[]]), (1, [[], [1]]), (1, [[1], []]), (3, [[1, 3], [], [2]]), (2, [[2, 1]]), (3, [[1, 3, 2]]),
    (3, [[3, 1], [2]]), (2, [[2], [1]]), (3, [[2], [1, 3]]), (4, [[1, 4], [3], [2]]), (12, alone(12)[::-1]),
    # A thing twice, left out, 0, beyond n.
    (1, [[1, 1]]), (1, [[1], [1]]), (2, [[1, 1], [2]]), (3, [[1, 2], [2, 3]]), (3, [[1, 2, 3], [1]]), (2, [[1, 2, 2]]),
    (2, [[1]]), (2, [[2]]), (3, [[1, 3]]), (3, [[1], [3]]), (12, alone(11)), (1, []), (12, []), (1, [[0]]),
    (1, [[0, 1]]), (1, [[0], [1]]), (2, [[0], [1, 2]]), (2, [[-1, 1, 2]]), (1, [[2]]), (1, [[1, 2]]), (1, [[1], [2]]),
    (2, [[1, 2], [3]]), (11, together(12)), (12, together(13)), (12, alone(13)), (1, [[10 ** 29]]), (1, [[-10 ** 29]]),
    # Truths, texts, None, tuples for lists, and other things.
    (1, [[True]]), (2, [[True, 2]]), (2, [[True], [2]]), (2, [[1], [2], True]), (1, [[False, 1]]), (1, [["1"]]),
    (2, [[1, "2"]]), (2, [["1", "2"]]), (2, ["1", "2"]), (2, ["12"]), (2, "12"), (2, "1 2"), (1, [[None]]), (1, [None]),
    (1, None), (2, [[1], None, [2]]), (2, [[1, None], [2]]), (1, ([1],)), (1, [(1,)]), (1, ((1,),)), (2, [(1, 2)]),
    (2, [[1], (2,)]), (2, ([1], [2])), (1, [[[1]]]), (1, [[(1,)]]), (2, [1, 2]), (2, [[1], 2]), (1, 1), (1, True),
    (1, [1]), (1, (1,)), (1, ()), (1, [[[[[[1]]]]]]), (2, [[1, [2]]]), (2, [[], [1, 2]]), (2, [["", 1], [2]])]


def all_parted(n):
    """All ways to part n things, crossing ones too, each part rising, the parts by their least things."""
    found = [[]]
    for thing in range(1, n + 1):
        found = [parted[:at] + [parted[at] + [thing]] + parted[at + 1:] for parted in found
                 for at in range(len(parted))] + [parted + [[thing]] for parted in found]
    return found


def is_crossing(parted):
    """Whether four things, each two by turns, are in two parts."""
    part_of = {thing: at for at, part in enumerate(parted) for thing in part}
    return any(part_of[a] == part_of[c] != part_of[b] == part_of[d] for a, b, c, d in combinations(sorted(part_of), 4))


def all_sharings(n):
    """All sharings of n things, by going through all ways to part them."""
    return sorted(parted for parted in all_parted(n) if not is_crossing(parted))


def some_sharings(n, many):
    """Some sharings of n things, the same ones each time: things are put in, and what crosses is put alone."""
    chance = random.Random(n)
    found = []
    for at in range(many):
        parted = []
        for thing in range(1, n + 1):
            chosen = chance.randint(0, len(parted))
            tried = [part + [thing] if at == chosen else part for at, part in enumerate(parted)]
            parted = parted + [[thing]] if chosen == len(parted) or is_crossing(tried) else tried
        found.append([list(part) for part in parted])
    return found


def few_and_twelve():
    """All sharings of up to 6 things, and some of twelve."""
    few = [sharing for n in range(1, 7) for sharing in all_sharings(n)]
    return few + [sharing for n, sharing in SHARINGS if n == 12] + some_sharings(12, 40)


def things_of(sharing):
    return sorted(sum(sharing, []))


def leads_by(sharing):
    """The order of a sharing: each thing is led to the next one of its part, the last one to the first one."""
    next_of = {part[at - 1]: thing for part in sharing for at, thing in enumerate(part)}
    return tuple([next_of[thing] for thing in things_of(sharing)])


def lies_within(one, other):
    part_of = {thing: at for at, part in enumerate(other) for thing in part}
    return all(len({part_of[thing] for thing in part}) == 1 for part in one)


class WhatIsASharing(unittest.TestCase):
    def test_sharings(self):
        for n, sharing in SHARINGS:
            with self.subTest(sharing=sharing):
                check_truth(self, True, is_sharing(n, sharing))
        for sharing in some_sharings(12, 40):
            check_truth(self, True, is_sharing(12, sharing))

    def test_things_that_are_none(self):
        for n, thing in NO_SHARINGS:
            with self.subTest(n=n, thing=thing):
                check_truth(self, False, is_sharing(n, thing))

    def test_odd_things(self):
        for n, thing in product([1, 2, 12], ODD_THINGS):
            with self.subTest(n=n, thing=thing):
                check_truth(self, False, is_sharing(n, thing))

    def test_sharings_of_another_count_of_things(self):
        for n, sharing in SHARINGS:
            for other in range(1, 13):
                if other != n:
                    check_truth(self, False, is_sharing(other, sharing))

    def test_all_ways_to_part_a_few_things(self):
        for n in range(1, 8):
            for parted in all_parted(n):
                check_truth(self, not is_crossing(parted), is_sharing(n, parted))

    def test_all_lists_of_two_parts(self):
        numbers = [list(chosen) for many in range(3) for chosen in product(range(4), repeat=many)]
        due = all_sharings(3)
        for one, other in product(numbers, numbers):
            check_truth(self, [one, other] in due, is_sharing(3, [one, other]))

    def test_parts_in_another_order(self):
        for sharing in all_sharings(5):
            for turned in permutations(sharing):
                check_truth(self, list(turned) == sharing, is_sharing(5, list(turned)))

    def test_long_things(self):
        for thing in [[[1]] * 1900, [list(range(1, 1900))], alone(900), [[]] * 1900]:
            check_truth(self, False, is_sharing(12, thing))


class TheOrderOfASharing(unittest.TestCase):
    def test_known_ones(self):
        self.assertEqual(order_by([[1]]), (1,))
        self.assertEqual(order_by([[1, 3], [2]]), (3, 2, 1))
        self.assertEqual(order_by([[1, 2, 4], [3]]), (2, 4, 3, 1))
        self.assertEqual(order_by(alone(12)), tuple(range(1, 13)))
        self.assertEqual(order_by(together(12)), great(12))

    def test_the_parts_are_the_rounds(self):
        for sharing in few_and_twelve():
            self.assertEqual(order_by(sharing), leads_by(sharing))
            self.assertEqual(rounds(order_by(sharing)), sharing)


class OneWithinAnother(unittest.TestCase):
    def test_known_ones(self):
        check_truth(self, True, within([[1], [2], [3]], [[1, 3], [2]]))
        check_truth(self, False, within([[1, 3], [2]], [[1], [2], [3]]))
        check_truth(self, False, within([[1, 3], [2]], [[1, 2], [3]]))
        check_truth(self, False, within([[1, 2], [3]], [[1, 3], [2]]))
        check_truth(self, True, within([[1, 2], [3], [4]], [[1, 2], [3, 4]]))
        check_truth(self, True, within([[1, 4], [2], [3]], [[1, 2, 4], [3]]))
        check_truth(self, False, within([[1, 4], [2, 3]], [[1, 2, 4], [3]]))

    def test_all_of_a_few_things_either_way(self):
        for n in range(1, 6):
            for one, other in product(all_sharings(n), repeat=2):
                check_truth(self, lies_within(one, other), within(one, other))

    def test_a_sharing_and_itself(self):
        for sharing in few_and_twelve():
            check_truth(self, True, within(sharing, sharing))
            check_truth(self, True, within(sharing, [list(part) for part in sharing]))

    def test_twelve_things(self):
        for one, other in product(some_sharings(12, 20) + [alone(12), together(12)], repeat=2):
            check_truth(self, lies_within(one, other), within(one, other))

    def test_unlike_counts_of_things(self):
        for one, other in product(range(1, 13), repeat=2):
            if one != other:
                check_refused(self, "Unlike", within, alone(one), together(other))
                check_refused(self, "Unlike", within, together(one), alone(other))
                check_refused(self, "Unlike", within, together(one), together(other))
        check_refused(self, "Unlike", within, [[1, 2], [3]], [[1, 2], [3], [4]])


class TheOtherHalf(unittest.TestCase):
    def test_known_ones(self):
        self.assertEqual(other_half([[1]]), [[1]])
        self.assertEqual(other_half([[1], [2]]), [[1, 2]])
        self.assertEqual(other_half([[1, 2]]), [[1], [2]])
        self.assertEqual(other_half([[1, 2], [3]]), [[1, 3], [2]])
        self.assertEqual(other_half([[1, 3], [2]]), [[1], [2, 3]])
        self.assertEqual(other_half([[1], [2, 3]]), [[1, 2], [3]])
        for n in range(1, 13):
            self.assertEqual(other_half(alone(n)), together(n))
            self.assertEqual(other_half(together(n)), alone(n))

    def test_both_orders_make_the_great_round(self):
        for sharing in few_and_twelve():
            half = other_half(sharing)
            n = len(things_of(sharing))
            check_truth(self, True, is_sharing(n, half))
            one, other = leads_by(sharing), leads_by(half)
            self.assertEqual(tuple([other[thing - 1] for thing in one]), great(n))
            self.assertEqual(len(sharing) + len(half), n + 1)

    def test_there_is_just_one(self):
        for n in range(1, 6):
            for sharing in all_sharings(n):
                found = [half for half in all_sharings(n)
                         if tuple([leads_by(half)[thing - 1] for thing in leads_by(sharing)]) == great(n)]
                self.assertEqual(found, [other_half(sharing)])

    def test_the_other_half_of_the_other_half(self):
        for sharing in few_and_twelve():
            n = len(things_of(sharing))
            due = sorted([sorted([thing % n + 1 for thing in part]) for part in sharing])
            self.assertEqual(other_half(other_half(sharing)), due)

    def test_within_turned_about(self):
        for one, other in list(product(all_sharings(5), repeat=2)) + list(product(some_sharings(12, 20), repeat=2)):
            check_truth(self, within(one, other), within(other_half(other), other_half(one)))


def sorted_rounds(order):
    """The rounds of an order, each sorted, sorted, thing by thing."""
    found = []
    for thing in order:
        reached = [thing]
        while order[reached[-1] - 1] != thing:
            reached.append(order[reached[-1] - 1])
        found.append(tuple(sorted(reached)))
    return sorted([list(part) for part in set(found)])


def all_chains(n):
    """All chains of sharings of n things, by going through all sharings that may come next."""
    found = [[alone(n)]]
    for many in range(n - 1, 0, -1):
        nexts = [sharing for sharing in all_sharings(n) if len(sharing) == many]
        found = [chain + [sharing] for chain in found for sharing in nexts if lies_within(chain[-1], sharing)]
    return found


def some_chains(n, many):
    """Some chains of sharings of n things, the same ones each time: two parts are joined that then do not cross."""
    chance = random.Random(n)
    found = []
    for at in range(many):
        chain = [alone(n)]
        while len(chain) < n:
            one, other = chance.sample(chain[-1], 2)
            tried = sorted([part for part in chain[-1] if part not in (one, other)] + [sorted(one + other)])
            if not is_crossing(tried):
                chain.append(tried)
        found.append(chain)
    return found


class Beginnings(unittest.TestCase):
    def test_known_ones(self):
        self.assertEqual(beginnings([]), [[[1]]])
        self.assertEqual(beginnings([(1, 2)]), [[[1], [2]], [[1, 2]]])
        self.assertEqual(beginnings([(2, 3), (1, 2)]), [[[1], [2], [3]], [[1], [2, 3]], [[1, 2, 3]]])
        self.assertEqual(beginnings([(1, 3), (2, 3)]), [[[1], [2], [3]], [[1, 3], [2]], [[1, 2, 3]]])
        self.assertEqual(beginnings(star(great(12)))[4], [[1, 2, 3, 4, 5]] + [[thing] for thing in range(6, 13)])

    def test_all_of_a_few_things_and_some_of_twelve(self):
        rows = [row for n in range(1, 6) for row in great_rows(n)] + least_rows(great(6))[::9]
        for row in rows + some_least_rows(great(12), 40):
            n = len(row) + 1
            told = beginnings(row)
            self.assertEqual(told, [sorted_rounds(order_of(n, row[:many])) for many in range(n)])
            for sharing in told:
                check_truth(self, True, is_sharing(n, sharing))

    def test_they_are_just_the_chains(self):
        for n in range(1, 6):
            self.assertEqual(sorted([beginnings(row) for row in great_rows(n)]), sorted(all_chains(n)))

    def test_rows_that_are_no_least_row_of_the_great_round(self):
        check_great_only(self, beginnings)


def no_chains():
    """Lists of sharings that are no chain."""
    found = [[], [alone(2)], [together(2)], [alone(3), together(3)], [together(2), alone(2)], [[[1, 2], [3]]],
             [alone(12)], [together(12)], [alone(12), together(12)],
             # Two joins at once.
             [alone(4), [[1, 2], [3, 4]], together(4)], [alone(4), [[1, 2, 3], [4]], together(4)],
             [alone(4), [[1, 2], [3], [4]], together(4)], [alone(5), [[1], [2, 3], [4], [5]], [[1, 5], [2, 3], [4]],
                                                           together(5)],
             # Not within one another.
             [alone(4), [[1, 2], [3], [4]], [[1, 3, 4], [2]], together(4)],
             [alone(4), [[1, 2], [3], [4]], [[1], [2, 3, 4]], together(4)],
             [alone(4), [[1, 4], [2], [3]], [[1, 2], [3, 4]], together(4)],
             # Unlike counts of things.
             [alone(1), together(2)], [alone(2), together(3)], [alone(3), together(2)], [alone(2), together(1)],
             [alone(3), [[1, 2]], together(3)], [alone(3), [[1, 2], [3], [4]], together(3)],
             [alone(3), [[1, 2], [3]], together(4)], [alone(4), [[1, 2], [3]], together(3)],
             [[[1]], [[1], [2]], [[1, 2]]], [alone(2), together(2), [[1]]], [[[1]]] + all_chains(3)[0]]
    for n in range(2, 5):
        for chain in all_chains(n) + some_chains(12, 2):
            found += [chain[1:], chain[:-1], chain[::-1], chain + chain]
            found += [chain[:at] + chain[at + 1:] for at in range(len(chain))]
            found += [chain[:at] + [chain[at]] + chain[at:] for at in range(len(chain))]
    return found + [[[[1]], [[1]]], [[[1]]] * 5]


class TheRowOfAChain(unittest.TestCase):
    def test_known_ones(self):
        self.assertEqual(row_of_chain([[[1]]]), [])
        self.assertEqual(row_of_chain([[[1], [2]], [[1, 2]]]), [(1, 2)])
        self.assertEqual(row_of_chain([[[1], [2], [3]], [[1, 2], [3]], [[1, 2, 3]]]), [(1, 2), (1, 3)])
        self.assertEqual(row_of_chain([[[1], [2], [3]], [[1, 3], [2]], [[1, 2, 3]]]), [(1, 3), (2, 3)])
        self.assertEqual(row_of_chain([[[1], [2], [3]], [[1], [2, 3]], [[1, 2, 3]]]), [(2, 3), (1, 2)])

    def test_there_and_back(self):
        for chain in [chain for n in range(1, 6) for chain in all_chains(n)] + some_chains(12, 40):
            row = row_of_chain(chain)
            check_truth(self, True, is_row(len(chain), row))
            self.assertEqual(len(row), len(chain) - 1)
            self.assertEqual(order_of(len(chain), row), great(len(chain)))
            self.assertEqual(beginnings(row), chain)

    def test_back_and_there(self):
        rows = [row for n in range(1, 6) for row in great_rows(n)] + least_rows(great(6))
        for row in rows + some_least_rows(great(12), 40):
            self.assertEqual(row_of_chain(beginnings(row)), row)

    def test_lists_that_are_no_chain(self):
        for chain in no_chains():
            check_refused(self, "NoChain", row_of_chain, chain)

    def test_all_short_lists_of_sharings_of_three_things(self):
        few = [sharing for n in [2, 3] for sharing in all_sharings(n)]
        due = [chain for n in [1, 2, 3] for chain in all_chains(n)]
        for many in range(4):
            for chain in product(few, repeat=many):
                if list(chain) not in due:
                    check_refused(self, "NoChain", row_of_chain, list(chain))


class AllSharings(unittest.TestCase):
    def test_known_ones(self):
        self.assertEqual(sharings(1), [[[1]]])
        self.assertEqual(sharings(2), [[[1], [2]], [[1, 2]]])
        self.assertEqual(sharings(3), [[[1], [2], [3]], [[1], [2, 3]], [[1, 2], [3]], [[1, 2, 3]], [[1, 3], [2]]])

    def test_all_by_trial(self):
        for n in range(1, 8):
            told = sharings(n)
            self.assertEqual(told, all_sharings(n))
            self.assertEqual(told, sorted(told))
            self.assertEqual(len({str(sharing) for sharing in told}), len(told))
            for sharing in told:
                check_truth(self, True, is_sharing(n, sharing))

    def test_how_many(self):
        self.assertEqual([len(sharings(n)) for n in range(1, 8)], [1, 2, 5, 14, 42, 132, 429])

    def test_just_the_orders_on_the_way_to_the_great_round(self):
        for n in range(1, 6):
            told = [order_by(sharing) for sharing in sharings(n)]
            begun = {order_of(n, row[:many]) for row in great_rows(n) for many in range(n)}
            self.assertEqual(sorted(told), [order for order in orders(n) if order in begun])


class WhatIsToldIsTheAskersOwn(unittest.TestCase):
    def test_sharings_that_are_handed_in(self):
        for n, sharing in SHARINGS:
            check_own(self, is_sharing, n, sharing)
            check_own(self, order_by, sharing)
            check_own(self, other_half, sharing)
            check_own(self, within, sharing, alone(n))
            check_own(self, within, alone(n), sharing)
        check_own(self, is_sharing, 3, [[[3]], [1, [2]]])
        check_own(self, is_sharing, 4, [[1, 3], [2, 4]])

    def test_chains(self):
        for row in [[], [(1, 2)], [(1, 3), (2, 3)], star(great(12))]:
            check_own(self, beginnings, row)
            check_own(self, row_of_chain, beginnings(row))

    def test_all_sharings(self):
        for n in range(1, 6):
            check_own(self, sharings, n)


if __name__ == "__main__":
    unittest.main()
