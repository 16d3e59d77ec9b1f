"""Points 2, 3 and 27: papers that hold, and papers that do not."""

import ast
import unittest
from copy import deepcopy
from itertools import product
from pathlib import Path

from swapstars import looker
from swapstars.counts import count_table, kinds
from swapstars.looker import holds
from swapstars.moves import between, walked
from swapstars.orders import great, made, plain
from swapstars.rows import home, star
from swapstars.shares import beginnings, other_half, sharings
from tests.helper import (ODD_THINGS, all_rows, check_own, check_truth, exchanges, order_of, orders, some_least_rows,
                          some_orders, some_rows)

LONG = exchanges(12)[:60]
HOOK = [(1, 4), (2, 4), (3, 4)]


def alone(n):
    return [[thing] for thing in range(1, n + 1)]


def together(n):
    return [list(range(1, n + 1))]


def good_papers():
    """Papers of each sort that hold."""
    papers = [
        ("row", (1,), []), ("row", (2, 1), [(1, 2)]), ("row", (2, 1), [(1, 2)] * 3), ("row", plain(12), []),
        ("row", (2, 3, 1), [(1, 2), (1, 3)]), ("row", order_of(12, LONG), LONG), ("row", (1, 2), [(1, 2)] * 60),
        ("least", (1,), []), ("least", (2, 1), [(1, 2)]), ("least", plain(12), []),
        ("least", great(12), home(great(12))), ("least", (2, 1, 4, 3), [(3, 4), (1, 2)]),
        ("walk", 1, [], [], []), ("walk", 12, LONG, [], LONG), ("walk", 3, [(1, 2), (2, 3)], [(1, "forth")],
                                                                 [(2, 3), (1, 3)]),
        ("walk", 12, LONG, [(59, "back"), (1, "forth")], walked(LONG, [(59, "back"), (1, "forth")])),
        ("walk", 4, star(great(4)), between(4, star(great(4)), HOOK), HOOK),
        ("walk", 2, [(1, 2)] * 2, [(1, "forth")] * 600, [(1, 2)] * 2),
        ("half", 1, [[1]], [[1]]), ("half", 3, [[1, 2], [3]], [[1, 3], [2]]),
        ("half", 12, alone(12), together(12)), ("half", 12, together(12), alone(12)),
        ("chain", 1, [[[1]]]), ("chain", 2, [[[1], [2]], [[1, 2]]]), ("chain", 12, beginnings(star(great(12)))),
        ("counts", 1, [[1]]), ("counts", 1, [[1], [0], [0]]), ("counts", 2, [[1, 0], [0, 1], [1, 0]]),
        ("counts", 3, count_table(3, 20)), ("counts", 10, count_table(10, 20)), ("counts", 10, count_table(10, 0)),
        ("counts", 2, [[at % 2 ^ 1, at % 2] for at in range(600)]),
        ("counts", 1, [[int(at == 0)] for at in range(900)])]
    for order in some_orders(12, 6) + some_orders(5, 6):
        papers += [("least", order, row) for row in some_least_rows(order, 2)]
    for row in some_least_rows(great(12), 4):
        papers.append(("chain", 12, beginnings(row)))
    papers += [("half", 5, sharing, other_half(sharing)) for sharing in sharings(5)]
    return papers


ONE, OTHER = [(1, 2), (2, 3)], [(2, 3), (1, 3)]

# They cannot be done, or do not lead the one to the other, or are no moves; (1, "forth") would.
BAD_WALKS = [
    [], [(1, "back")], [(2, "forth")], [(0, "forth")], [(1, "forth"), (2, "forth")], [(1, "forth")] * 2,
    [(1, "forth ")], [(10 ** 29, "forth")], [(1, "forth", 1)], [(1,)], [()], ["forth"], [(1, ["forth"])], [(1, None)],
    [("1", "forth")], [("forth", 1)], [None], [1, "forth"], (1, "forth"), ((1, "forth"),), [[1, "forth"]],
    [(True, "forth")], "1.forth", [(1, "forth"), None], [(1, "forth"), ()], [[]], None]

# Each is spoilt in one part.
BAD_PAPERS = [("walk", 3, ONE, moves, OTHER) for moves in BAD_WALKS] + [
    # Another order, a row that leads elsewhere, things beyond, too long a row.
    ("row", (1, 2), [(1, 2)]), ("row", (2, 1), []), ("row", (3, 1, 2), [(1, 2), (1, 3)]), ("row", (2, 1), [(1, 3)]),
    ("row", (2, 1), [(2, 1)]), ("row", (1,), [(1, 2), (1, 2)]), ("row", (2, 1, 3), [(1, 2), (3, 4), (3, 4)]),
    ("row", (1, 2), [(1, 2)] * 62), ("row", (2, 1), [(1, 2)] * 61), ("row", (), []), ("row", plain(13), []),
    ("row", (2, 2), [(1, 2)]), ("row", (1, 3), []), ("row", (0,), []), ("row", (2, 1), [(1, 2, 3)]),
    ("row", (2, 1), [(1,)]),
    ("row", (2, 1), [1, 2]), ("row", (2, 1), None), ("row", None, [(1, 2)]), ("row", "(1 2)", "1-2"),
    ("row", 2, [(1, 2)]),
    # Not least.
    ("least", (1, 2), [(1, 2)] * 2), ("least", (2, 1), [(1, 2)] * 3), ("least", (1, 2), [(1, 2)] * 60),
    ("least", (2, 1), [(1, 2)] * 61), ("least", (3, 2, 1), [(1, 2), (1, 3), (1, 2), (1, 3), (1, 2)]),
    ("least", (3, 2, 1), [(1, 2), (2, 3), (1, 2)]), ("least", (1, 2), [(1, 2)]), ("least", (2, 1), []),
    ("least", (3, 1, 2), [(1, 2), (1, 3)]), ("least", order_of(12, LONG), LONG), ("least", (), []),
    ("walk", 3, ONE, [(1, "forth"), (1, "Back")], ONE), ("walk", 3, ONE, [(1, "forth"), (-1, "back")], ONE),
    ("walk", 3, ONE, [(1, "")], ONE), ("walk", 3, ONE, "", ONE), ("walk", 3, ONE, None, ONE), ("walk", 3, ONE, (), ONE),
    ("walk", 3, ONE, [], ONE, []), ("walk", 2, ONE, [], ONE), ("walk", 2, [(1, 2)], [], [(1, 2), (1, 2)]),
    ("walk", 2, [(1, 2)] * 61, [], [(1, 2)] * 61), ("walk", 3, [], [(1, "forth")], []),
    ("walk", 3, [(1, 2)], [(1, "forth")], [(1, 2)]), ("walk", 3, [(2, 1)], [], [(2, 1)]),
    ("walk", 13, [(1, 13)], [], [(1, 13)]),
    # Not the other half, and no sharings.
    ("half", 3, [[1, 2], [3]], [[1, 2], [3]]), ("half", 3, [[1, 2], [3]], [[1], [2, 3]]),
    ("half", 3, [[1, 3], [2]], [[1, 2], [3]]), ("half", 2, [[1, 2]], [[1, 2]]), ("half", 2, [[1], [2]], [[1], [2]]),
    ("half", 2, [[1]], [[1]]), ("half", 1, [[1], [2]], [[1, 2]]), ("half", 2, [[1], [2]], [[2, 1]]),
    ("half", 3, [[3], [1, 2]], [[1, 3], [2]]), ("half", 4, [[1, 3], [2, 4]], [[1, 4], [2, 3]]),
    ("half", 4, [[1, 3], [2, 4]], [[1, 3], [2, 4]]), ("half", 1, [], []), ("half", 1, None, None),
    ("half", 2, "1/2", "1 2"), ("half", 0, [], []), ("half", 0, [[]], [[]]), ("half", 13, together(13), alone(13)),
    # No chains.
    ("chain", 0, []), ("chain", 0, [[]]), ("chain", 0, [[[]]]), ("walk", 0, [], [], []), ("counts", 0, [[1]]),
    ("chain", 1, []), ("chain", 12, []), ("chain", 2, [[[1], [2]]]), ("chain", 2, [[[1, 2]]]),
    ("chain", 2, [[[1, 2]], [[1], [2]]]), ("chain", 3, [[[1], [2], [3]], [[1, 2, 3]]]),
    ("chain", 2, [[[1], [2]], [[1], [2]], [[1, 2]]]), ("chain", 2, [[[1], [2]], [[1, 2]], [[1, 2]]]),
    ("chain", 1, [[[1]], [[1]]]), ("chain", 2, [[[1]], [[1], [2]], [[1, 2]]]), ("chain", 1, [[[1], [2]], [[1, 2]]]),
    ("chain", 3, [[[1], [2]], [[1, 2]]]), ("chain", 2, [[[1], [2]], [[2, 1]]]), ("chain", 2, [[[2], [1]], [[1, 2]]]),
    ("chain", 4, [[[1], [2], [3], [4]], [[1, 3], [2], [4]], [[1, 3], [2, 4]], [[1, 2, 3, 4]]]),
    ("chain", 4, [[[1], [2], [3], [4]], [[1, 2], [3], [4]], [[1], [2, 3, 4]], [[1, 2, 3, 4]]]),
    ("chain", 2, None), ("chain", 2, "1/2"), ("chain", 1, [[1]]), ("chain", 1, [1]), ("chain", 1, [None]),
    # One number otherwise, a list left out or twice.
    ("counts", 1, []), ("counts", 10, []), ("counts", 1, [[0]]), ("counts", 1, [[1], [1]]),
    ("counts", 1, [[1], [0], [1]]),
    ("counts", 2, [[0, 1]]), ("counts", 2, [[0, 1], [1, 0]]), ("counts", 2, [[1, 0], [1, 0]]), ("counts", 2, [[1]]),
    ("counts", 2, [[1, 0], [0, 1], [1, 0, 0]]), ("counts", 2, [[1, 0], [0]]), ("counts", 2, [[1, 0], []]),
    ("counts", 2, [[1, 0, 0]]), ("counts", 2, [[1, 0], [0, 1], [0, 1]]), ("counts", 2, [[1, 0], [0, 10 ** 29]]),
    ("counts", 3, [[1, 0, 0], [0, 1, 0], [3, 0, 2]]), ("counts", 3, [[1, 0, 0], [3, 0, 3]]),
    ("counts", 3, [[1, 0, 0], [0, -1, 0]]),
    ("counts", 1, [1]), ("counts", 1, [None]), ("counts", 1, None), ("counts", 1, 1), ("counts", 1, [["1"]]),
    ("counts", 1, ["1"]),
    ("counts", 2, "10"), ("counts", 2, ["10"]), ("counts", 1, [[[1]]]), ("counts", 1, [[None]])]


def places(thing, way=()):
    """The ways to all things within a thing, itself too."""
    found = [way]
    if isinstance(thing, (list, tuple)):
        for at, inner in enumerate(thing):
            found += places(inner, way + (at,))
    return found


def at_place(thing, way):
    for at in way:
        thing = thing[at]
    return thing


def put(thing, way, new):
    """The thing with another one at the place."""
    if not way:
        return new
    inner = list(thing)
    inner[way[0]] = put(inner[way[0]], way[1:], new)
    return inner if isinstance(thing, list) else tuple(inner)


def chosen_places(paper):
    """All places of a short paper, some of a long one."""
    found = places(paper)
    return found if len(found) < 60 else found[:12] + found[12::len(found) // 30] + found[-3:]


def turned(thing):
    """A thing of another kind that Python might take for the same one."""
    if isinstance(thing, list):
        return tuple(thing)
    if isinstance(thing, tuple):
        return list(thing)
    return {0: False, 1: True}.get(thing)


class PapersThatHold(unittest.TestCase):
    def test_each_sort(self):
        for paper in good_papers():
            with self.subTest(paper=paper):
                check_truth(self, True, holds(paper))

    def test_counts_of_each_n(self):
        for n in range(1, 11):
            for many in [0, 1, 2, 20]:
                check_truth(self, True, holds(("counts", n, count_table(n, many))))

    def test_more_counts_than_are_told(self):
        for n in [2, 3]:
            lists = count_table(n, 20)
            for step in range(10):
                ahead = lists[-1]
                lists.append([ahead[1], ahead[0]] if n == 2 else
                             [3 * ahead[1], ahead[0] + 2 * ahead[2], 3 * ahead[1]])
            check_truth(self, True, holds(("counts", n, lists)))

    def test_rows_of_more_things_than_they_move(self):
        for n in range(3, 13):
            check_truth(self, True, holds(("walk", n, [(1, 2), (2, 3)], [(1, "forth")], [(2, 3), (1, 3)])))


class PapersThatDoNot(unittest.TestCase):
    def test_each_spoilt_in_one_part(self):
        for paper in BAD_PAPERS:
            with self.subTest(paper=paper):
                check_truth(self, False, holds(paper))

    def test_numbers_of_things(self):
        for paper in good_papers():
            if paper[0] in ["walk", "half", "chain", "counts"]:
                most = 10 if paper[0] == "counts" else 12
                for n in [0, -1, most + 1, 13, 10 ** 29, -10 ** 29, True, False, "1", str(paper[1]), "", None,
                          [paper[1]], (paper[1],), []]:
                    check_truth(self, False, holds(put(paper, (1,), n)))
        for n in [11, 12]:
            lists = [[1] + [0] * (len(kinds(n)) - 1)]
            check_truth(self, False, holds(("counts", n, lists)))

    def test_sharings_and_counts_of_another_number_of_things(self):
        for paper in good_papers():
            if paper[0] in ["half", "chain", "counts"]:
                for n in range(1, 13):
                    check_truth(self, n == paper[1], holds(put(paper, (1,), n)))

    def test_parts_of_other_kinds(self):
        for paper in good_papers():
            for way in chosen_places(paper):
                thing = at_place(paper, way)
                for new in [turned(thing), None, "", "x", [thing], (thing,), (), True, False]:
                    check_truth(self, False, holds(put(paper, way, new)))

    def test_one_number_otherwise(self):
        for paper in good_papers():
            if paper[0] == "walk":
                continue
            for way in chosen_places(paper):
                thing = at_place(paper, way)
                if isinstance(thing, int):
                    for new in [thing + 1, thing - 1, -thing - 1, thing + 10 ** 28]:
                        check_truth(self, False, holds(put(paper, way, new)))

    def test_a_list_left_out_or_twice(self):
        for paper in good_papers():
            if paper[0] in ["chain", "counts"]:
                lists = paper[2]
                for at in range(min(len(lists), 25)):
                    twice = lists[:at] + [lists[at]] + lists[at:]
                    if not (paper[0] == "counts" and paper[1] == 1 and at > 0):
                        check_truth(self, False, holds((paper[0], paper[1], twice)))
                    if at < len(lists) - 1 and len(lists) < 100:
                        left = lists[:at] + lists[at + 1:]
                        if not (paper[0] == "counts" and paper[1] == 1 and at > 0):
                            check_truth(self, False, holds((paper[0], paper[1], left)))

    def test_too_few_and_too_many_parts(self):
        for paper in good_papers():
            for many in range(len(paper)):
                check_truth(self, False, holds(paper[:many]))
            for more in [None, [], paper[-1], 1, ""]:
                check_truth(self, False, holds(paper + (more,)))
            check_truth(self, False, holds(paper[1:]))
            check_truth(self, False, holds(list(paper)))
            check_truth(self, False, holds((paper,)))
            check_truth(self, False, holds([paper]))

    def test_other_words(self):
        words = ["row", "least", "walk", "half", "chain", "counts"]
        others = ["", "Row", "ROW", "row ", " row", "rows", "order", "tree", "cars", "count", "sharing", "joined",
                  None, True, 0, 1, ["row"], ("row",), [], (), "x" * 1000]
        for paper in good_papers():
            for word in others + words:
                due = word == paper[0] or (paper[0], word) == ("least", "row")
                if (paper[0], word) != ("row", "least"):
                    check_truth(self, due, holds((word,) + paper[1:]))

    def test_things_that_are_no_papers(self):
        for thing in ODD_THINGS + [("row",), ("walk",), ("counts",), "row", ["row", (1,), []], ((("row", (1,), []),),),
                                   ("row", ("row", (1,), []), []), [[[[[[]]]]]], ((((((),),),),),), ["x"] * 2000]:
            with self.subTest(thing=thing):
                check_truth(self, False, holds(thing))

    def test_odd_things_in_each_part(self):
        for paper in [("row", (2, 1), [(1, 2)]), ("least", (2, 1), [(1, 2)]), ("half", 2, [[1], [2]], [[1, 2]]),
                      ("walk", 3, [(1, 2), (2, 3)], [(1, "forth")], [(2, 3), (1, 3)]),
                      ("chain", 2, [[[1], [2]], [[1, 2]]]), ("counts", 2, [[1, 0], [0, 1]])]:
            check_truth(self, True, holds(paper))
            for way, thing in product(places(paper), ODD_THINGS):
                if thing != at_place(paper, way) or isinstance(thing, bool):
                    check_truth(self, False, holds(put(paper, way, thing)))


class AllPapersOfAFewThings(unittest.TestCase):
    def test_rows(self):
        for n in [1, 2, 3]:
            for many in range(5):
                for row, order in product(all_rows(n, many), orders(n)):
                    due = order_of(n, row) == order
                    check_truth(self, due, holds(("row", order, row)))
                    least = many == 0 or (many == 1) or (n == 3 and many == 2 and order in [(2, 3, 1), (3, 1, 2)])
                    check_truth(self, due and least, holds(("least", order, row)))

    def test_walks(self):
        for one, other in product(all_rows(3, 2), all_rows(3, 2)):
            for moves in product(product(range(3), ["forth", "back"]), repeat=2):
                can = all(k == 1 for k, way in moves)
                due = can and walked(one, list(moves)) == other
                check_truth(self, due, holds(("walk", 3, one, list(moves), other)))

    def test_halves(self):
        for n in range(1, 5):
            for one, other in product(sharings(n), repeat=2):
                check_truth(self, other == other_half(one), holds(("half", n, one, other)))

    def test_chains(self):
        chains = [beginnings(row) for n in [1, 2, 3] for row in all_rows(3, n - 1) if order_of(n, row) == great(n)
                  and all(b <= n for a, b in row)]
        self.assertEqual(len(chains), 5)
        few = [sharing for n in [1, 2, 3] for sharing in sharings(n)]
        for many in range(4):
            for chain in product(few, repeat=many):
                for n in [1, 2, 3]:
                    due = list(chain) in chains and len(chain) == n
                    check_truth(self, due, holds(("chain", n, list(chain))))

    def test_counts(self):
        for lists in product(product(range(-1, 3), repeat=2), repeat=2):
            handed = [list(counts) for counts in lists]
            check_truth(self, handed == [[1, 0], [0, 1]], holds(("counts", 2, handed)))

    def test_walks_of_twelve_things(self):
        for row in some_rows(12, 12, 60):
            if len(row) > 3:
                moves = [(3, "forth"), (len(row) - 1, "back"), (1, "back"), (2, "forth")]
                reached = walked(row, moves)
                check_truth(self, True, holds(("walk", 12, row, moves, reached)))
                check_truth(self, False, holds(("walk", 12, row, moves, reached[:-1])))
                check_truth(self, False, holds(("walk", 12, row, moves + [(len(row), "back")], reached)))

    def test_an_order_made_of_rounds(self):
        order = made(12, [[1, 5, 3], [2, 12], [4, 6, 8, 10]])
        check_truth(self, True, holds(("least", order, star(order))))
        check_truth(self, True, holds(("least", order, home(order))))
        check_truth(self, False, holds(("least", order, star(order)[::-1])))
        check_truth(self, True, holds(("row", order, star(order) + [(1, 2)] * 2)))
        check_truth(self, False, holds(("least", order, star(order) + [(1, 2)] * 2)))


class TheLookerFindsNothing(unittest.TestCase):
    def test_it_asks_none_of_those_that_find(self):
        imported = [name.name for node in ast.walk(ast.parse(Path(looker.__file__).read_text()))
                    if isinstance(node, ast.ImportFrom) for name in node.names]
        finders = ["is_least", "star", "home", "to_star", "between", "cars_of", "row_of_cars", "other_half",
                   "by_pictures"]
        self.assertEqual([name for name in imported if name in finders], [])

    def test_what_is_looked_at_stays(self):
        for paper in good_papers() + BAD_PAPERS:
            before = deepcopy(paper)
            holds(paper)
            self.assertEqual(paper, before)

    def test_papers_told_again(self):
        for paper in good_papers()[::3] + BAD_PAPERS[::3]:
            # Written and read, so that no list stands in it twice.
            check_own(self, holds, ast.literal_eval(repr(paper)))


if __name__ == "__main__":
    unittest.main()
