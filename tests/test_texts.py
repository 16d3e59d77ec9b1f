"""Points 2 and 28: orders, rows and sharings written and read."""

import unittest
from itertools import product

from swapstars.orders import great, made, plain
from swapstars.shares import sharings
from swapstars.texts import read_order, read_row, read_sharing, show_order, show_row, show_sharing
from tests.helper import ODD_THINGS, all_rows, check_own, check_refused, exchanges, orders, some_orders, some_rows

SIGNS = "()-/ ,.;0123456789an"
NO_TEXTS = [thing for thing in ODD_THINGS if not isinstance(thing, str)] + [["(1)"], ("(1)",), ["none"], [[1]], 12]

ORDERS = {"(1)": (1,), "(1)(2)": (1, 2), "(1 2)": (2, 1), "(1 3 2)(4)": (3, 1, 2, 4), "(1)(2 3)": (1, 3, 2),
          "(1 10)(2)(3)(4)(5)(6)(7)(8)(9)": made(10, [[1, 10]]),
          "(1 2 3 4 5 6 7 8 9 10 11 12)": great(12),
          "(1)(2)(3)(4)(5)(6)(7)(8)(9)(10)(11)(12)": plain(12),
          "(1 12)(2 11)(3 10)(4 9)(5 8)(6 7)": tuple(range(12, 0, -1))}

NO_ORDERS = [
    "", " ", "(", ")", "()", ")(", "()()", "(1", "1)", "1", "1)(2", "(1)(2", "1)(2)", "(1(2)", "(1))", "((1))", "((1)",
    "(1)()", "()(1)", "(1)(2)()", "[1]", "{1}", "(1)[2]", "(1,2)", "(1-2)", "(1/2)", "(1.2)", "1 2", "(one)", "none",
    # Noughts, signs and other figures.
    "(01)", "(1 02)", "(1)(02)", "(00)", "(0)", "(0 1)", "(0)(1)", "(-1)", "(+1)", "(1_0)", "(1e0)", "(1.0)", "(x)",
    # Blanks.
    "(1  2)", " (1)", "(1) ", "( 1)", "(1 )", "(1) (2)", "(1 2 )", "( 1 2)", "(1)( 2)", "(1)(2) ", " (1)(2)",
    # Rounds not in their order, or not begun at their least thing.
    "(2)(1)", "(2 1)", "(3 2 1)", "(2 1)(3)", "(3)(1 2)", "(2 3)(1)", "(1 2)(4 3)", "(1 3)(4)(2)", "(2 3 1)",
    # A thing left out, twice, beyond.
    "(2)", "(1)(3)", "(1 3)", "(1 1)", "(1)(1)", "(1 2)(2)", "(1 2 2)", "(1 2 1)", "(1 4)(2)", "(13)", "(1 13)",
    "(1 2)(3)(5)", "(1 2 3 4 5 6 7 8 9 10 11 13)", "(1 2 3 4 5 6 7 8 9 10 12)",
    "(1 2 3 4 5 6 7 8 9 10 11 12 13)", "(1)(2)(3)(4)(5)(6)(7)(8)(9)(10)(11)(12)(13)", "(999999999)", "(1000000000)",
    "(" + "1" * 998 + ")", "(" * 1000, ")(" * 500, " " * 1000, "9" * 1000, "(1)" * 333]

ROWS = {(1, "none"): [], (12, "none"): [], (2, "1-2"): [(1, 2)], (4, "1-2 1-4"): [(1, 2), (1, 4)],
        (4, "3-4 1-2 1-2"): [(3, 4), (1, 2), (1, 2)], (12, "1-12 11-12 2-10"): [(1, 12), (11, 12), (2, 10)],
        (2, " ".join(["1-2"] * 60)): [(1, 2)] * 60,
        (12, " ".join([f"{a}-{b}" for a, b in exchanges(12)[-60:]])): exchanges(12)[-60:]}

# Texts that write no row, of any n.
NO_ROWS = [
    "", " ", "-", "--", "1", "12", "1-", "-2", "1--2", "-1-2", "1-2-", "1-2-3", "1-2 3", "1 2", "1 -2", "1- 2", "1 - 2",
    "None", "NONE", "none ", " none", "none none", "none 1-2", "1-2 none", "nones", "non", "(1 2)", "(1-2)", "1/2",
    # Noughts, blanks and other signs.
    "01-2", "1-02", "1-2 01-2", "0-1", "0-2", "0-0", "00-1", "+1-2", "1-+2", "1--2", "a-b", "1-b", "1.0-2", "1_-2",
    "1-2  1-2", " 1-2", "1-2 ", "  1-2", "1-2,1-2", "1-2;1-2", "1-2, 1-2", "1-2/1-2", "1~2", "1:2",
    # Exchanges turned about, of one thing, or beyond.
    "2-1", "1-1", "2-2", "1-2 2-1", "2-1 1-2", "12-11", "1-13", "12-13", "13-14", "1-999999999", "1-1000000000",
    " ".join(["1-2"] * 61), " ".join(["1-2"] * 200), "1" * 1000, "-" * 1000, "1-" * 500, " " * 1000]

SHARINGS = {"1": [[1]], "1/2": [[1], [2]], "1 2": [[1, 2]], "1 3/2": [[1, 3], [2]], "1/2 3": [[1], [2, 3]],
            "1 2/3 4": [[1, 2], [3, 4]],
            "1 12/2 11/3 10/4 9/5 8/6 7": [[1, 12], [2, 11], [3, 10], [4, 9], [5, 8], [6, 7]],
            "1 2 3 4 5 6 7 8 9 10 11 12": [list(range(1, 13))],
            "1/2/3/4/5/6/7/8/9/10/11/12": [[thing] for thing in range(1, 13)]}

NO_SHARINGS = [
    "", " ", "/", "//", "1/", "/1", "1//2", "1/2/", "/1/2", "none", "(1)", "1-2", "1,2", "1,3/2", "1|2", "a", "1/b",
    # Noughts, blanks and other signs.
    "01", "1/02", "1 02", "0", "00", "0/1", "0 1", "-1", "+1", "1.0", "1  2", " 1", "1 ", "1 /2", "1/ 2", "1 / 2",
    "1/2 ",
    # Parts that cross.
    "1 3/2 4", "1 3 5/2 4", "1 4/2 5/3", "1/2 4/3 5", "1 2 4/3 5 6", "1 3 5 7 9 11/2 4 6 8 10 12",
    # Not sorted.
    "2 1", "2/1", "2/1 3", "1/3/2", "3 1/2", "1 3 2", "1 4/3/2",
    # A thing left out, twice, beyond.
    "2", "1 3", "1/3", "1 1", "1/1", "1 2/2", "1 2/1", "13", "1/13", "1 2 3 4 5 6 7 8 9 10 11 13",
    "1 2 3 4 5 6 7 8 9 10 11 12 13", "1/2/3/4/5/6/7/8/9/10/11/12/13", "999999999", "1000000000", "1" * 1000, "/" * 1000,
    " " * 1000, "1/" * 500]


def altered(text):
    """All texts that have one sign less, one more, or another one."""
    found = [text[:at] + text[at + 1:] for at in range(len(text))]
    for sign in SIGNS:
        found += [text[:at] + sign + text[at:] for at in range(len(text) + 1)]
        found += [text[:at] + sign + text[at + 1:] for at in range(len(text))]
    return found


def written_order(order):
    """The text of an order, thing by thing."""
    text, seen = "", set()
    for first in range(1, len(order) + 1):
        if first not in seen:
            things = [first]
            while order[things[-1] - 1] != first:
                things.append(order[things[-1] - 1])
            seen |= set(things)
            text += "(" + " ".join(map(str, things)) + ")"
    return text


class Orders(unittest.TestCase):
    def test_known_ones(self):
        for text, order in ORDERS.items():
            self.assertEqual(show_order(order), text)
            self.assertEqual(read_order(text), order)
            self.assertIs(type(read_order(text)), tuple)

    def test_written_and_read(self):
        for order in [order for n in range(1, 6) for order in orders(n)] + some_orders(12, 60) + some_orders(10, 20):
            self.assertEqual(show_order(order), written_order(order))
            self.assertEqual(read_order(show_order(order)), order)

    def test_texts_that_are_none(self):
        for text in NO_ORDERS:
            with self.subTest(text=text):
                check_refused(self, "NoText", read_order, text)

    def test_things_that_are_no_texts(self):
        for thing in NO_TEXTS + [(1,), (2, 1), [(1,)], great(12)]:
            check_refused(self, "NoText", read_order, thing)

    def test_texts_altered_in_one_sign(self):
        due = {written_order(order): order for n in range(1, 6) for order in orders(n)}
        for order in orders(1) + orders(2) + orders(3) + orders(4)[::5]:
            for text in altered(written_order(order)):
                if text in due:
                    self.assertEqual(read_order(text), due[text])
                else:
                    check_refused(self, "NoText", read_order, text)

    def test_all_short_texts(self):
        for many in range(7):
            for signs in product("(12) ", repeat=many):
                text = "".join(signs)
                if text in ORDERS:
                    self.assertEqual(read_order(text), ORDERS[text])
                else:
                    with self.assertRaises(ValueError):
                        read_order(text)


class Rows(unittest.TestCase):
    def test_known_ones(self):
        for (n, text), row in ROWS.items():
            self.assertEqual(show_row(row), text)
            self.assertEqual(read_row(n, text), row)
            self.assertTrue(all(type(pair) is tuple for pair in read_row(n, text)))

    def test_written_and_read(self):
        rows = [(4, row) for many in range(4) for row in all_rows(4, many)]
        for n, row in rows + [(12, row) for row in some_rows(12, 40, 60)]:
            due = " ".join([str(a) + "-" + str(b) for a, b in row]) or "none"
            self.assertEqual(show_row(row), due)
            self.assertEqual(read_row(n, due), row)

    def test_texts_that_are_none(self):
        for text, n in product(NO_ROWS, [1, 2, 12]):
            with self.subTest(n=n, text=text):
                check_refused(self, "NoText", read_row, n, text)

    def test_rows_of_more_things(self):
        for n in range(1, 12):
            check_refused(self, "NoText", read_row, n, f"1-{n + 1}")
            check_refused(self, "NoText", read_row, n, f"{n}-{n + 1}")
            check_refused(self, "NoText", read_row, n, "1-12")
            self.assertEqual(read_row(n + 1, f"1-{n + 1} {n}-{n + 1}"), [(1, n + 1), (n, n + 1)])
        check_refused(self, "NoText", read_row, 3, "1-2 1-3 1-4")

    def test_sixty_and_sixty_one(self):
        self.assertEqual(read_row(3, " ".join(["2-3"] * 60)), [(2, 3)] * 60)
        check_refused(self, "NoText", read_row, 3, " ".join(["2-3"] * 61))

    def test_things_that_are_no_texts(self):
        for thing in NO_TEXTS + [[], [(1, 2)], ["1-2"], ("1-2",)]:
            check_refused(self, "NoText", read_row, 12, thing)

    def test_texts_altered_in_one_sign(self):
        due = {" ".join([f"{a}-{b}" for a, b in row]) or "none": row for many in range(4) for row in all_rows(3, many)}
        for row in all_rows(3, 0) + all_rows(3, 1) + all_rows(3, 2):
            for text in altered(show_row(row)):
                if text in due:
                    self.assertEqual(read_row(3, text), due[text])
                else:
                    check_refused(self, "NoText", read_row, 3, text)


class Sharings(unittest.TestCase):
    def test_known_ones(self):
        for text, sharing in SHARINGS.items():
            self.assertEqual(show_sharing(sharing), text)
            self.assertEqual(read_sharing(text), sharing)

    def test_written_and_read(self):
        for sharing in [sharing for n in range(1, 8) for sharing in sharings(n)]:
            due = "/".join([" ".join([str(thing) for thing in part]) for part in sharing])
            self.assertEqual(show_sharing(sharing), due)
            self.assertEqual(read_sharing(due), sharing)

    def test_texts_that_are_none(self):
        for text in NO_SHARINGS:
            with self.subTest(text=text):
                check_refused(self, "NoText", read_sharing, text)

    def test_things_that_are_no_texts(self):
        for thing in NO_TEXTS + [[[1]], [[1], [2]], [1], ["1"], ("1",)]:
            check_refused(self, "NoText", read_sharing, thing)

    def test_texts_altered_in_one_sign(self):
        due = {show_sharing(sharing): sharing for n in range(1, 7) for sharing in sharings(n)}
        for sharing in [sharing for n in range(1, 5) for sharing in sharings(n)]:
            for text in altered(show_sharing(sharing)):
                if text in due:
                    self.assertEqual(read_sharing(text), due[text])
                else:
                    check_refused(self, "NoText", read_sharing, text)


class WhatIsToldIsTheAskersOwn(unittest.TestCase):
    def test_what_is_read(self):
        for text in ORDERS:
            check_own(self, read_order, text)
        for n, text in ROWS:
            check_own(self, read_row, n, text)
        for text in SHARINGS:
            check_own(self, read_sharing, text)

    def test_what_is_written(self):
        for order in ORDERS.values():
            check_own(self, show_order, order)
        for row in ROWS.values():
            check_own(self, show_row, row)
        for sharing in SHARINGS.values():
            check_own(self, show_sharing, sharing)


if __name__ == "__main__":
    unittest.main()
