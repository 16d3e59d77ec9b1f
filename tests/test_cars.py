"""Points 2, 3, 14 and 15: cars that park and the least rows of the great round."""

import random
import unittest
from itertools import product

from swapstars.cars import cars_of, parked, parks, row_of_cars
from swapstars.moves import least_rows
from swapstars.orders import great
from swapstars.rows import is_row, star
from tests.helper import (ODD_THINGS, check_great_only, check_own, check_refused, check_truth, great_rows, order_of,
                          some_least_rows)

RISING = list(range(1, 12))

PARKING = [[], [1], [1, 1], [1, 2], [2, 1], [1, 1, 1], [3, 1, 1], [2, 2, 1], [3, 2, 1], [1, 3, 1, 3], [1] * 11, RISING,
           RISING[::-1], [1, 1, 3, 3, 5, 5, 7, 7, 9, 9, 11], [10, 10] + [1] * 9, [2] * 10 + [1]]

# Lists of whole numbers that do not park.
NOT_PARKING = [[0], [2], [-1], [10 ** 29], [-10 ** 29], [2, 2], [0, 1], [1, 0], [1, 3], [3, 1], [-1, 1], [1, 2, 4],
               [2, 2, 2], [3, 3, 1], [1, 3, 3], [2, 3, 2], [0, 0, 0], [0, 1, 2], [4, 4, 1, 1], [2] * 11, [11] * 11,
               [11, 11] + [1] * 9, [10] * 3 + [1] * 8, list(range(11)), list(range(2, 13)), [1] * 10 + [0],
               [1] * 10 + [12], [1] * 10 + [-1], [1] * 12, list(range(1, 13)), [1] * 13, [1] * 60, [1] * 2000]

OTHER_THINGS = [(1,), (1, 1), (1, 2), ((1,),), [[1]], [1, [1]], [(1,)], [True], [False], [1, True], [True, 1],
                [1, 2, True], [True] * 11, [None], [1, None], ["1"], [1, "1"], ["", 1], "1", "11", [[], []], [()],
                [1, ()], [None] * 11, tuple(RISING)]


def all_find_one(numbers):
    """Whether the k-th least number is at most k, for each k."""
    return all(1 <= number <= most for most, number in enumerate(sorted(numbers), start=1))


def parking_lists(many):
    """All lists of so many numbers that park, by going through all lists."""
    return [list(numbers) for numbers in product(range(1, many + 1), repeat=many) if all_find_one(numbers)]


def some_parking_lists(length, many):
    """Some lists that park, the same ones each time: the k-th least number is chosen from 1 to k."""
    chance = random.Random(length)
    found = []
    for at in range(many):
        numbers = [chance.randint(1, most) for most in range(1, length + 1)]
        found.append(chance.sample(numbers, length))
    return found


class WhatParks(unittest.TestCase):
    def test_lists_that_park(self):
        for numbers in PARKING + some_parking_lists(11, 40):
            check_truth(self, True, parks(numbers))

    def test_lists_that_do_not(self):
        for numbers in NOT_PARKING:
            check_truth(self, False, parks(numbers))

    def test_other_things(self):
        for thing in OTHER_THINGS + ODD_THINGS:
            with self.subTest(thing=thing):
                check_truth(self, False, parks(thing))

    def test_all_short_lists(self):
        for length in range(5):
            for numbers in product(range(-1, length + 2), repeat=length):
                check_truth(self, all_find_one(numbers), parks(list(numbers)))

    def test_how_many(self):
        for many in range(6):
            told = [numbers for numbers in product(range(1, many + 1), repeat=many) if parks(list(numbers))]
            self.assertEqual(len(told) * (many + 1), (many + 1) ** many)


class ThePlacesTaken(unittest.TestCase):
    def test_known_ones(self):
        self.assertEqual(parked([]), [])
        self.assertEqual(parked([1]), [1])
        self.assertEqual(parked([1, 1]), [1, 2])
        self.assertEqual(parked([2, 1]), [2, 1])
        self.assertEqual(parked([2, 2, 1]), [2, 3, 1])
        self.assertEqual(parked([2, 1, 1]), [2, 1, 3])
        self.assertEqual(parked([3, 1, 1, 1]), [3, 1, 2, 4])
        self.assertEqual(parked([1] * 11), RISING)
        self.assertEqual(parked(RISING[::-1]), RISING[::-1])
        self.assertEqual(parked([2] * 10 + [1]), RISING[1:] + [1])

    def test_each_takes_the_first_free_place(self):
        for numbers in parking_lists(4) + parking_lists(5) + some_parking_lists(11, 60):
            told = parked(numbers)
            self.assertEqual(sorted(told), list(range(1, len(numbers) + 1)))
            for at, number in enumerate(numbers):
                free = [place for place in range(number, len(numbers) + 1) if place not in told[:at]]
                self.assertEqual(told[at], free[0])

    def test_cars_that_find_no_place(self):
        for numbers in NOT_PARKING:
            check_refused(self, "NoCars", parked, numbers)
        for numbers in product(range(-1, 5), repeat=3):
            if not all_find_one(numbers):
                check_refused(self, "NoCars", parked, list(numbers))


class TheCarsOfARow(unittest.TestCase):
    def test_known_ones(self):
        self.assertEqual(cars_of([]), [])
        self.assertEqual(cars_of([(1, 2)]), [1])
        self.assertEqual(cars_of([(1, 2), (1, 3)]), [1, 1])
        self.assertEqual(cars_of([(1, 3), (2, 3)]), [1, 2])
        self.assertEqual(cars_of([(2, 3), (1, 2)]), [2, 1])
        self.assertEqual(cars_of(star(great(12))), [1] * 11)
        self.assertEqual(cars_of([(thing, 12) for thing in range(1, 12)]), RISING)

    def test_all_rows_of_a_few_things(self):
        for n in range(1, 6):
            rows = great_rows(n)
            for row in rows:
                self.assertEqual(cars_of(row), [min(pair) for pair in row])
            self.assertEqual(sorted([cars_of(row) for row in rows]), parking_lists(n - 1))

    def test_rows_of_six_and_of_twelve_things(self):
        rows = least_rows(great(6))
        self.assertEqual(sorted([cars_of(row) for row in rows]), parking_lists(5))
        for row in some_least_rows(great(12), 60):
            self.assertEqual(cars_of(row), [a for a, b in row])
            check_truth(self, True, parks(cars_of(row)))

    def test_rows_that_are_no_least_row_of_the_great_round(self):
        check_great_only(self, cars_of)


class TheRowOfCars(unittest.TestCase):
    def test_known_ones(self):
        self.assertEqual(row_of_cars([]), [])
        self.assertEqual(row_of_cars([1]), [(1, 2)])
        self.assertEqual(row_of_cars([1, 1]), [(1, 2), (1, 3)])
        self.assertEqual(row_of_cars([1, 2]), [(1, 3), (2, 3)])
        self.assertEqual(row_of_cars([2, 1]), [(2, 3), (1, 2)])
        self.assertEqual(row_of_cars([1] * 11), star(great(12)))
        self.assertEqual(row_of_cars(RISING), [(thing, 12) for thing in range(1, 12)])

    def test_there_and_back(self):
        few = [numbers for many in range(6) for numbers in parking_lists(many)]
        for numbers in PARKING + few + some_parking_lists(11, 60):
            n = len(numbers) + 1
            row = row_of_cars(numbers)
            check_truth(self, True, is_row(n, row))
            self.assertEqual([a for a, b in row], numbers)
            self.assertEqual(order_of(n, row), great(n))
            self.assertEqual(cars_of(row), numbers)

    def test_back_and_there(self):
        for row in [row for n in range(1, 6) for row in great_rows(n)] + some_least_rows(great(12), 60):
            self.assertEqual(row_of_cars(cars_of(row)), row)

    def test_lists_that_do_not_park(self):
        for numbers in NOT_PARKING:
            check_refused(self, "NoCars", row_of_cars, numbers)
        for numbers in product(range(-1, 5), repeat=3):
            if not all_find_one(numbers):
                check_refused(self, "NoCars", row_of_cars, list(numbers))


class WhatIsToldIsTheAskersOwn(unittest.TestCase):
    def test_rows_and_cars(self):
        for row in [[], [(1, 2)], [(1, 3), (2, 3)], star(great(12))]:
            check_own(self, cars_of, row)
            check_own(self, row_of_cars, cars_of(row))
            check_own(self, parked, cars_of(row))
            check_own(self, parks, cars_of(row))
        check_own(self, parked, [3, 1, 1])
        check_own(self, parks, [[1], [[1]]])
        check_own(self, parks, [2, 2])


if __name__ == "__main__":
    unittest.main()
