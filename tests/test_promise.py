"""Point 3: the whole promise, sentence by sentence, for a few things."""

import unittest
from collections import Counter
from itertools import product

from swapstars.cars import cars_of, parks, row_of_cars
from swapstars.counts import count_table, counted, kinds, listed
from swapstars.desk import Desk
from swapstars.joined import by_holes, joined, least_counted, without_holes
from swapstars.looker import holds
from swapstars.moves import between, least_rows, moved, walked
from swapstars.orders import great, is_order, kind, plain, rounds, then
from swapstars.pictures import by_pictures
from swapstars.rows import holes, home, is_least, is_row, led, parts, star
from swapstars.shares import beginnings, is_sharing, order_by, other_half, row_of_chain, sharings
from swapstars.texts import read_order, read_row, show_order, show_row, show_sharing
from swapstars.trees import is_tree, row_of_tree, tree_of, trees
from tests.helper import all_rows, check_truth, great_rows, order_of, orders


def as_word(text):
    return text.replace(" ", ",")


class RowsAndWalks(unittest.TestCase):
    def test_each_order_is_led_to_and_by_no_row_of_fewer_exchanges(self):
        for n in range(1, 5):
            fewest = {}
            for many in range(n):
                for row in all_rows(n, many):
                    fewest.setdefault(order_of(n, row), many)
            self.assertEqual(sorted(fewest), orders(n))
            for order in orders(n):
                for row in [star(order), home(order)]:
                    self.assertEqual(order_of(n, row), order)
                    self.assertEqual(len(row), fewest[order])

    def test_just_one_home_row(self):
        for n in range(1, 5):
            rising = [row for many in range(n) for row in all_rows(n, many)
                      if [b for a, b in row] == sorted({b for a, b in row})]
            self.assertEqual(sorted([order_of(n, row) for row in rising]), orders(n))
            for row in rising:
                self.assertEqual(home(order_of(n, row)), row)

    def test_what_is_led_past_a_neighbour(self):
        for row in all_rows(4, 3):
            for k, (way, undoing) in product([1, 2], [("forth", "back"), ("back", "forth")]):
                reached = moved(row, k, way)
                self.assertEqual(order_of(4, reached), order_of(4, row))
                self.assertEqual(moved(reached, k, undoing), row)

    def test_any_two_least_rows_of_one_order(self):
        for n in range(1, 5):
            for order in orders(n):
                for one, other in product(least_rows(order), repeat=2):
                    self.assertEqual(walked(one, between(n, one, other)), other)


class TreesCarsAndChains(unittest.TestCase):
    def test_each_least_row_of_the_great_round_is_told_by_just_one(self):
        for n in range(1, 6):
            rows = great_rows(n)
            self.assertEqual(len(rows) * n * n, n ** n)
            for tell, back in [(tree_of, row_of_tree), (cars_of, row_of_cars), (beginnings, row_of_chain)]:
                told = [tell(row) for row in rows]
                self.assertEqual([back(one) for one in told], rows)
                self.assertEqual(len({str(one) for one in told}), len(rows))

    def test_each_tree_car_and_chain_leads_back(self):
        for n in range(1, 6):
            rows = sorted(great_rows(n))
            self.assertEqual(sorted([row_of_tree(tree) for tree in trees(n)]), rows)
            numbers = [list(cars) for cars in product(range(1, n), repeat=n - 1) if parks(list(cars))]
            self.assertEqual(sorted([row_of_cars(cars) for cars in numbers]), rows)
            for row in rows:
                check_truth(self, True, is_tree(tree_of(row)))
                check_truth(self, True, parks(cars_of(row)))
                check_truth(self, True, holds(("chain", n, beginnings(row))))


class SharingsAndHalves(unittest.TestCase):
    def test_a_sharing_and_its_other_half(self):
        for n in range(1, 8):
            for sharing in sharings(n):
                half = other_half(sharing)
                check_truth(self, True, is_sharing(n, half))
                self.assertEqual(then(order_by(sharing), order_by(half)), great(n))
                self.assertEqual(len(sharing) + len(half), n + 1)


class Counts(unittest.TestCase):
    def test_they_hang_on_the_kind_alone(self):
        for n, most in [(1, 5), (2, 5), (3, 5), (4, 4)]:
            for many in range(most + 1):
                found = Counter(order_of(n, row) for row in all_rows(n, many))
                for order in orders(n):
                    lengths = kind(order)
                    told = [listed(lengths, many), counted(lengths, many), by_pictures(lengths, many)]
                    self.assertEqual(told, [found[order]] * 3)

    def test_alike_where_rows_are_not_listed(self):
        for n in [5, 6, 10]:
            for many, counts in enumerate(count_table(n, 20)):
                if many in [0, 5, 12, 19, 20]:
                    self.assertEqual([by_pictures(lengths, many) for lengths in kinds(n)], counts)

    def test_those_that_hang_together(self):
        for n, most in [(1, 4), (2, 5), (3, 5), (4, 4)]:
            for many in range(most + 1):
                found = Counter((order_of(n, row), str(parts(n, row))) for row in all_rows(n, many))
                for order in orders(n):
                    self.assertEqual(joined(kind(order), many), found[order, str([list(range(1, n + 1))])])

    def test_all_parted_by_their_parts(self):
        # Two rounds: both in one part, or each by itself in some of the places.
        for one, other in product(range(1, 6), repeat=2):
            lengths = sorted([one, other], reverse=True)
            for many in range(13):
                told, ways = joined(lengths, many), 1
                for at in range(many + 1):
                    told += ways * joined([one], at) * joined([other], many - at)
                    ways = ways * (many - at) // (at + 1)
                self.assertEqual(told, counted(lengths, many))

    def test_those_without_holes(self):
        for n, most in [(1, 0), (2, 2), (3, 4), (4, 5)]:
            found = Counter()
            for many in range(most + 1):
                for row in all_rows(n, many):
                    if len(parts(n, row)) == 1 and holes(n, row) == 0:
                        found[order_of(n, row)] += 1
            for order in orders(n):
                if n + len(kind(order)) - 2 <= most:
                    self.assertEqual(without_holes(kind(order)), found[order])
                    self.assertEqual(by_holes(kind(order), 0), found[order])
                self.assertEqual(least_counted(kind(order)), len(least_rows(order)))


class LookerAndDesk(unittest.TestCase):
    def test_the_looker_lets_by_what_is_told(self):
        for n in range(1, 5):
            check_truth(self, True, holds(("counts", n, count_table(n, 20))))
            for order in orders(n):
                for row in least_rows(order):
                    check_truth(self, True, holds(("row", order, row)))
                    check_truth(self, True, holds(("least", order, row)))
                    check_truth(self, True, holds(("walk", n, row, between(n, row, star(order)), star(order))))
            for sharing in sharings(n):
                check_truth(self, True, holds(("half", n, sharing, other_half(sharing))))

    def test_the_looker_lets_by_nothing_else(self):
        for n in [1, 2, 3]:
            rows = [row for many in range(4) for row in all_rows(n, many)]
            for order, row in product(orders(n), rows):
                leads = order_of(n, row) == order
                check_truth(self, leads, holds(("row", order, row)))
                check_truth(self, leads and len(row) == n - len(kind(order)), holds(("least", order, row)))
            for one, other in product(sharings(n), repeat=2):
                check_truth(self, other_half(one) == other, holds(("half", n, one, other)))
            for one, other in product(rows, repeat=2):
                check_truth(self, one == other, holds(("walk", n, one, [], other)))

    def test_what_the_desk_tells_of_texts(self):
        for row in [row for many in range(4) for row in all_rows(3, many)]:
            desk = Desk(3)
            order = led(3, row)
            told = {"show": show_row(row), "order": show_order(order), "parts": show_sharing(parts(3, row)),
                    "kind": " ".join([str(length) for length in kind(order)]),
                    "least": "yes" if is_least(3, row) else "no"}
            self.assertEqual(desk.say("row a " + as_word(show_row(row))), "ok")
            for word, text in told.items():
                self.assertEqual(desk.say(word + " a"), as_word(text))
            for many in range(6):
                self.assertEqual(desk.say(f"count a {many}"), str(counted(kind(order), many)))
                self.assertEqual(desk.say(f"joined a {many}"), str(joined(kind(order), many)))

    def test_what_the_desk_tells_of_the_great_round(self):
        for row in great_rows(4):
            desk = Desk(4)
            desk.say("row a " + as_word(show_row(row)))
            desk.say("star b (1,2,3,4)")
            walk = [tuple(move.split(".")) for move in desk.say("lead a b").split(",") if move != "none"]
            self.assertEqual(walked(row, [(int(k), way) for k, way in walk]), star(great(4)))
            self.assertEqual(row_of_tree([int(word) for word in desk.say("tree a").split(",")]), row)
            self.assertEqual(row_of_cars([int(word) for word in desk.say("cars a").split(",")]), row)
            begun = [desk.say(f"begun a {j}") for j in range(4)]
            self.assertEqual(begun, [as_word(show_sharing(sharing)) for sharing in beginnings(row)])

    def test_what_is_written_is_read(self):
        for n in range(1, 5):
            for order in orders(n):
                self.assertEqual(read_order(show_order(order)), order)
                check_truth(self, True, is_order(read_order(show_order(order))))
                self.assertEqual(read_row(n, show_row(star(order))), star(order))
                check_truth(self, True, is_row(n, star(order)))
            self.assertEqual(rounds(plain(n)), [[thing] for thing in range(1, n + 1)])


if __name__ == "__main__":
    unittest.main()
