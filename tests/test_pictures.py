"""Points 2, 3, 22, 23 and 24: pictures of boxes, their numbers, and counts of rows by them."""

import unittest
from itertools import product
from math import factorial

from swapstars.counts import count_table, kinds, listed, orders_of
from swapstars.pictures import by_pictures, contents, number_at, number_table, rims
from tests.helper import FAR_OFF, check_own, check_refused


def pictures(most):
    """All pictures of at most so many boxes, the empty one too."""
    return [[]] + [picture for n in range(1, most + 1) for picture in kinds(n)]


def boxes(picture):
    """All boxes, as (row, column)."""
    return {(row, column) for row, many in enumerate(picture) for column in range(many)}


def hang_together(chosen):
    """Whether one comes from any box to any other over boxes side by side."""
    reached = {min(chosen)}
    for step in chosen:
        reached |= {(row, column) for row, column in chosen
                    if {(row + 1, column), (row - 1, column), (row, column + 1), (row, column - 1)} & reached}
    return reached == chosen


def has_square(chosen):
    """Whether four of the boxes make a square."""
    return any({(row + 1, column), (row, column + 1), (row + 1, column + 1)} <= chosen for row, column in chosen)


def rims_by_trial(picture, k):
    """All rims, by going through all pictures of fewer boxes: a rim hangs together and has no square."""
    found = []
    for left in pictures(10):
        if sum(left) == sum(picture) - k and boxes(left) <= boxes(picture):
            rim = boxes(picture) - boxes(left)
            if hang_together(rim) and not has_square(rim):
                found.append((left, len({row for row, column in rim}) - 1))
    return sorted(found)


def ways_to_fill(picture):
    """In how many ways boxes can be put down one behind another, a picture each time."""
    below = [len([many for many in picture if many > column]) for column in range(10)]
    hooks = 1
    for row, column in boxes(picture):
        hooks *= picture[row] - column + below[column] - row - 1
    return factorial(sum(picture)) // hooks


class Contents(unittest.TestCase):
    def test_known_ones(self):
        self.assertEqual(contents([]), 0)
        self.assertEqual(contents([1]), 0)
        self.assertEqual(contents([2]), 1)
        self.assertEqual(contents([1, 1]), -1)
        self.assertEqual(contents([3, 2]), 2)
        self.assertEqual(contents([10]), 45)
        self.assertEqual(contents([1] * 10), -45)
        self.assertEqual(contents([4, 3, 2, 1]), 0)
        self.assertEqual(contents([5, 5]), 15)

    def test_box_by_box(self):
        for picture in pictures(10):
            self.assertEqual(contents(picture), sum(column - row for row, column in boxes(picture)))


class Rims(unittest.TestCase):
    def test_known_ones(self):
        self.assertEqual(rims([1], 1), [([], 0)])
        self.assertEqual(rims([2, 1], 1), [([1, 1], 0), ([2], 0)])
        self.assertEqual(rims([2, 1], 3), [([], 1)])
        self.assertEqual(rims([3, 2, 1], 3), [([1, 1, 1], 1), ([3], 1)])
        self.assertEqual(rims([1] * 10, 10), [([], 9)])
        self.assertEqual(rims([10], 10), [([], 0)])
        self.assertEqual(rims([10], 3), [([7], 0)])
        self.assertEqual(rims([5, 1, 1], 7), [([], 2)])
        self.assertEqual(rims([4, 4], 2), [([3, 3], 1), ([4, 2], 0)])

    def test_where_none_can_be_taken(self):
        self.assertEqual(rims([2, 1], 2), [])
        self.assertEqual(rims([2, 2], 4), [])
        self.assertEqual(rims([4, 3, 2, 1], 2), [])
        self.assertEqual(rims([3], 4), [])
        for k in range(1, 11):
            self.assertEqual(rims([], k), [])

    def test_all_by_trial(self):
        for picture, k in product(pictures(8), range(1, 11)):
            self.assertEqual(rims(picture, k), rims_by_trial(picture, k))

    def test_ten_boxes(self):
        for picture, k in product(kinds(10)[::5], range(1, 11)):
            self.assertEqual(rims(picture, k), rims_by_trial(picture, k))

    def test_what_is_left_is_a_picture(self):
        for picture, k in product(pictures(10), range(1, 11)):
            told = rims(picture, k)
            self.assertEqual(told, sorted(told))
            for rim in told:
                self.assertIs(type(rim), tuple)
                left, steps = rim
                self.assertIn(left, pictures(10))
                self.assertEqual(sum(left), sum(picture) - k)
                self.assertIn(steps, range(k))


class NumbersOfPictures(unittest.TestCase):
    def test_known_ones(self):
        self.assertEqual(number_at([], []), 1)
        self.assertEqual(number_at([1], [1]), 1)
        self.assertEqual(number_at([2, 1], [1, 1, 1]), 2)
        self.assertEqual(number_at([2, 1], [2, 1]), 0)
        self.assertEqual(number_at([2, 1], [3]), -1)
        self.assertEqual(number_at([3, 3], [2, 2, 2]), -3)
        self.assertEqual(number_at([2, 2, 2], [2, 2, 2]), 3)
        self.assertEqual(number_at([4, 3, 2, 1], [2] * 5), 0)

    def test_the_widest_and_the_highest_picture(self):
        for n in range(1, 11):
            for lengths in kinds(n):
                self.assertEqual(number_at([n], lengths), 1)
                self.assertEqual(number_at([1] * n, lengths), (-1) ** (n - len(lengths)))

    def test_at_ones(self):
        for picture in pictures(10):
            self.assertEqual(number_at(picture, [1] * sum(picture)), ways_to_fill(picture))

    def test_in_any_order_of_the_rims(self):
        # The rims may be taken off from the last number on too: the number is the same.
        def from_behind(picture, lengths):
            if not lengths:
                return 1
            return sum((-1) ** steps * from_behind(left, lengths[:-1])
                       for left, steps in rims_by_trial(picture, lengths[-1]))
        for n in range(1, 7):
            for picture, lengths in product(kinds(n), kinds(n)):
                self.assertEqual(number_at(picture, lengths), from_behind(picture, lengths))

    def test_one_box_more_than_the_rest_stays(self):
        # The picture of n - 1 and 1 tells how many things stay, less 1.
        for n in range(2, 11):
            for lengths in kinds(n):
                self.assertEqual(number_at([n - 1, 1], lengths), lengths.count(1) - 1)

    def test_unlike_counts(self):
        for picture, lengths in product(pictures(5), pictures(5)):
            if sum(picture) != sum(lengths):
                check_refused(self, "Unlike", number_at, picture, lengths)
        check_refused(self, "Unlike", number_at, [10], [9])
        check_refused(self, "Unlike", number_at, [4, 3, 2], [4, 3, 2, 1])
        check_refused(self, "Unlike", number_at, [], [1])
        check_refused(self, "Unlike", number_at, [1], [])


class TablesOfNumbers(unittest.TestCase):
    def test_known_ones(self):
        self.assertEqual(number_table(1), [[1]])
        self.assertEqual(number_table(2), [[1, -1], [1, 1]])
        self.assertEqual(number_table(3), [[1, -1, 1], [2, 0, -1], [1, 1, 1]])
        self.assertEqual(number_table(4), [[1, -1, 1, 1, -1], [3, -1, -1, 0, 1], [2, 0, 2, -1, 0], [3, 1, -1, 0, -1],
                                           [1, 1, 1, 1, 1]])

    def test_they_have_the_numbers_at_all_kinds(self):
        for n in range(1, 9):
            due = [[number_at(picture, lengths) for lengths in kinds(n)] for picture in kinds(n)]
            self.assertEqual(number_table(n), due)

    def test_products_of_the_numbers_of_two_pictures(self):
        for n in range(1, 9):
            many = [orders_of(lengths) for lengths in kinds(n)]
            table = number_table(n)
            for one, other in product(range(len(table)), repeat=2):
                told = sum(a * b * times for a, b, times in zip(table[one], table[other], many))
                self.assertEqual(told, factorial(n) if one == other else 0)

    def test_products_of_the_numbers_at_two_kinds(self):
        for n in range(1, 9):
            many = [orders_of(lengths) for lengths in kinds(n)]
            table = number_table(n)
            for one, other in product(range(len(table)), repeat=2):
                told = sum(numbers[one] * numbers[other] for numbers in table)
                self.assertEqual(told * many[one], factorial(n) if one == other else 0)


class CountsByPictures(unittest.TestCase):
    def test_known_ones(self):
        self.assertEqual(by_pictures([1], 0), 1)
        self.assertEqual(by_pictures([1], 1), 0)
        self.assertEqual(by_pictures([3], 2), 3)
        self.assertEqual(by_pictures([2, 1], 3), 9)
        self.assertEqual(by_pictures([4], 5), 640)
        self.assertEqual(by_pictures([10], 9), 10 ** 8)
        self.assertEqual(by_pictures([1] * 10, 1), 0)

    def test_alike_to_those_by_listing(self):
        for n in range(1, 5):
            for lengths, many in product(kinds(n), range(6)):
                self.assertEqual(by_pictures(lengths, many), listed(lengths, many))

    def test_alike_to_those_by_joining_and_cutting(self):
        for n in range(1, 11):
            for many, counts in enumerate(count_table(n, 20)):
                told = [by_pictures(lengths, many) for lengths in kinds(n)]
                self.assertEqual(told, counts)
                self.assertTrue(all(type(count) is int for count in told))

    def test_counts_of_exchanges_out_of_bounds(self):
        for n in range(1, 11):
            for lengths, many in product(kinds(n), [21, 22, -1, -2, -20] + FAR_OFF):
                check_refused(self, "NoBound", by_pictures, lengths, many)


class WhatIsToldIsTheAskersOwn(unittest.TestCase):
    def test_pictures_that_are_handed_in(self):
        for picture in [[], [1], [2, 1], [4, 3, 2, 1], [10], [1] * 10]:
            check_own(self, contents, picture)
            for k in [1, 3, 10]:
                check_own(self, rims, picture, k)
            check_own(self, number_at, picture, [1] * sum(picture))
            check_own(self, number_at, picture, [sum(picture)] if picture else [])

    def test_tables(self):
        for n in range(1, 9):
            check_own(self, number_table, n)

    def test_counts(self):
        for lengths, many in product([[1], [2, 1], [4, 3, 2, 1], [1] * 10], [0, 1, 20]):
            check_own(self, by_pictures, lengths, many)


if __name__ == "__main__":
    unittest.main()
