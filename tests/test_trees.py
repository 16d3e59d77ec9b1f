"""Points 2, 3 and 13: trees and the least rows of the great round."""

import random
import unittest
from itertools import product

from swapstars.moves import least_rows
from swapstars.orders import great
from swapstars.rows import is_row, star
from swapstars.trees import is_tree, row_of_tree, tree_of, trees
from tests.helper import (ODD_THINGS, check_great_only, check_own, check_refused, check_truth, great_rows, order_of,
                          some_least_rows)

CHAIN = list(range(11))
CHAIN_FROM_BEHIND = list(range(2, 12)) + [0]

TREES = [[], [0], [0, 0], [0, 1], [2, 0], [0, 0, 0], [0, 1, 2], [2, 3, 0], [3, 1, 0], [0, 1, 1, 2], [0] * 11,
         [0] + [1] * 10, [11] * 10 + [0], CHAIN, CHAIN_FROM_BEHIND]

# Lists of whole numbers that are no tree.
NO_TREES = [[1], [2], [-1], [10 ** 29], [-10 ** 29], [1, 1], [2, 1], [2, 2], [0, 2], [1, 0], [0, 3], [3, 0], [0, -1],
            [-1, 0], [0, 3, 2], [2, 3, 1], [0, 1, 3], [0, 1, 4], [0, 0, -1], [0, 0, 5, 3, 4, 1], [0] * 10 + [11],
            [0] * 10 + [12], [0] * 10 + [-1], [2, 1] + [0] * 9, list(range(2, 12)) + [1], list(range(1, 12)), [0] * 12,
            list(range(12)), [0] * 13, [0] * 60, [1] * 2000]

OTHER_THINGS = [(0,), (0, 0), (0, 1), ((0,),), [[0]], [0, [1]], [(0,)], [False], [True], [0, True], [0, False],
                [0, 0, True], [None], [0, None], ["0"], ["", 0], [0, "1"], "0", "00", [[], []], [()], [0, ()],
                [None] * 11, [False] * 11, tuple(CHAIN)]


def comes_home(numbers):
    """Whether all places are reached from 0, going back from the numbers to their places."""
    reached = {0}
    for step in numbers:
        reached |= {place for place, number in enumerate(numbers, start=1) if number in reached}
    return len(reached) == len(numbers) + 1


def trees_by_trial(n):
    """All trees of n things, by going through all lists."""
    return [list(numbers) for numbers in product(range(n), repeat=n - 1) if comes_home(numbers)]


def way_to(row, thing, seen):
    """The places of the exchanges over which one goes from the thing 1 to the thing."""
    for place, pair in enumerate(row, start=1):
        if thing in pair and place not in seen:
            ahead = pair[0] + pair[1] - thing
            way = [] if ahead == 1 else way_to(row, ahead, seen + [place])
            if way is not None:
                return way + [place]
    return None


def elders(row):
    """The elders of the exchanges, each by the way from 1 to its far thing."""
    ways = [way_to(row, thing, []) for thing in range(2, len(row) + 2)]
    ahead = {way[-1]: (way[-2] if len(way) > 1 else 0) for way in ways}
    return [ahead[place] for place in range(1, len(row) + 1)]


def some_trees(length, many):
    """Some trees, the same ones each time: each tie is tied to one that is there."""
    chance = random.Random(length)
    found = []
    for at in range(many):
        numbers = [0] * length
        there = [0]
        for place in chance.sample(range(1, length + 1), length):
            numbers[place - 1] = chance.choice(there)
            there.append(place)
        found.append(numbers)
    return found


class WhatIsATree(unittest.TestCase):
    def test_trees(self):
        for numbers in TREES + some_trees(11, 40):
            check_truth(self, True, is_tree(numbers))

    def test_lists_that_are_none(self):
        for numbers in NO_TREES:
            check_truth(self, False, is_tree(numbers))

    def test_other_things(self):
        for thing in OTHER_THINGS + [thing for thing in ODD_THINGS if thing != [0]]:
            with self.subTest(thing=thing):
                check_truth(self, False, is_tree(thing))

    def test_all_short_lists(self):
        for length in range(5):
            for numbers in product(range(-1, length + 2), repeat=length):
                due = all(0 <= number <= length for number in numbers) and comes_home(numbers)
                check_truth(self, due, is_tree(list(numbers)))


class TheTreeOfARow(unittest.TestCase):
    def test_known_ones(self):
        self.assertEqual(tree_of([]), [])
        self.assertEqual(tree_of([(1, 2)]), [0])
        self.assertEqual(tree_of([(1, 2), (1, 3)]), [0, 0])
        self.assertEqual(tree_of([(1, 3), (2, 3)]), [0, 1])
        self.assertEqual(tree_of([(2, 3), (1, 2)]), [2, 0])
        self.assertEqual(tree_of(star(great(12))), [0] * 11)
        self.assertEqual(tree_of([(thing, thing + 1) for thing in range(11, 0, -1)]), CHAIN_FROM_BEHIND)
        self.assertEqual(tree_of([(1, 12)] + [(thing, 12) for thing in range(2, 12)]), [0] + [1] * 10)

    def test_all_rows_of_a_few_things(self):
        for n in range(1, 6):
            rows = great_rows(n)
            for row in rows:
                self.assertEqual(tree_of(row), elders(row))
            self.assertEqual(sorted([tree_of(row) for row in rows]), trees_by_trial(n))

    def test_rows_of_six_and_of_twelve_things(self):
        for row in least_rows(great(6)) + some_least_rows(great(12), 60):
            self.assertEqual(tree_of(row), elders(row))

    def test_rows_that_are_no_least_row_of_the_great_round(self):
        check_great_only(self, tree_of)


class TheRowOfATree(unittest.TestCase):
    def test_known_ones(self):
        self.assertEqual(row_of_tree([]), [])
        self.assertEqual(row_of_tree([0]), [(1, 2)])
        self.assertEqual(row_of_tree([0, 0]), [(1, 2), (1, 3)])
        self.assertEqual(row_of_tree([0, 1]), [(1, 3), (2, 3)])
        self.assertEqual(row_of_tree([2, 0]), [(2, 3), (1, 2)])
        self.assertEqual(row_of_tree([0] * 11), star(great(12)))
        self.assertEqual(row_of_tree(CHAIN_FROM_BEHIND), [(thing, thing + 1) for thing in range(11, 0, -1)])

    def test_there_and_back(self):
        for numbers in TREES + trees_by_trial(4) + trees_by_trial(5) + trees_by_trial(6) + some_trees(11, 60):
            n = len(numbers) + 1
            row = row_of_tree(numbers)
            check_truth(self, True, is_row(n, row))
            self.assertEqual(len(row), n - 1)
            self.assertEqual(order_of(n, row), great(n))
            self.assertEqual(elders(row), numbers)
            self.assertEqual(tree_of(row), numbers)

    def test_back_and_there(self):
        for row in [row for n in range(1, 6) for row in great_rows(n)] + some_least_rows(great(12), 60):
            self.assertEqual(row_of_tree(tree_of(row)), row)

    def test_lists_that_are_no_tree(self):
        for numbers in NO_TREES:
            check_refused(self, "NoTree", row_of_tree, numbers)
        for numbers in product(range(-1, 5), repeat=3):
            if list(numbers) not in trees_by_trial(4):
                check_refused(self, "NoTree", row_of_tree, list(numbers))


class AllTrees(unittest.TestCase):
    def test_known_ones(self):
        self.assertEqual(trees(1), [[]])
        self.assertEqual(trees(2), [[0]])
        self.assertEqual(trees(3), [[0, 0], [0, 1], [2, 0]])

    def test_all_by_trial(self):
        for n in range(1, 7):
            told = trees(n)
            self.assertEqual(told, trees_by_trial(n))
            self.assertEqual(told, sorted(told))

    def test_how_many(self):
        self.assertEqual([len(trees(n)) for n in range(1, 7)], [1, 1, 3, 16, 125, 1296])


class WhatIsToldIsTheAskersOwn(unittest.TestCase):
    def test_rows_and_trees(self):
        for row in [[], [(1, 2)], [(1, 3), (2, 3)], star(great(12))]:
            check_own(self, tree_of, row)
            check_own(self, row_of_tree, tree_of(row))
            check_own(self, is_tree, tree_of(row))
        check_own(self, is_tree, [[0], [[1]]])
        check_own(self, is_tree, [0, 3])

    def test_all_trees(self):
        for n in range(1, 5):
            check_own(self, trees, n)


if __name__ == "__main__":
    unittest.main()
