"""Points 2, 29 and 30: a desk that keeps rows by names."""

import unittest
from itertools import product

from swapstars.cars import cars_of
from swapstars.counts import counted
from swapstars.desk import Desk
from swapstars.joined import joined
from swapstars.moves import moved, walked
from swapstars.orders import great, kind, plain
from swapstars.rows import holes, home, is_least, parts, star
from swapstars.shares import beginnings
from swapstars.texts import show_order, show_row, show_sharing
from swapstars.trees import tree_of
from tests.helper import (NOT_GREAT, all_rows, check_refused, exchanges, great_rows, order_of, orders, some_least_rows,
                          some_orders, some_rows)

# Each row of the desk, with a name that stands for a row, one that may be new, and what is due else.
FORMS = ["row NEW TEXT", "star NEW ORDER", "home NEW ORDER", "copy NEW NAME", "join NEW NAME NAME", "forth NAME K",
         "back NAME K", "drop NAME", "show NAME", "order NAME", "kind NAME", "least NAME", "parts NAME", "holes NAME",
         "lead NAME NAME", "tree NAME", "cars NAME", "begun NAME K", "count NAME K", "joined NAME K", "names"]

GOOD_WORDS = {"NEW": "new", "NAME": "a", "TEXT": "1-2,1-4", "ORDER": "(1,2,3,4)", "K": "1"}

NO_NAMES = ["A", "aB", "Ab", "a1", "1", "1a", "abcdefghi", "abcdefghijklmnop", "a_b", "a-b", "a,b", "a.b", "(a)", "~",
            "aaaaaaaaA", "x" * 900]
NO_NUMBERS = ["01", "00", "001", "1234567890", "0123456789", "-1", "+1", "1.0", "a", "none", "1,2", "1_0", "x1", "1x",
              "(1)", "9" * 500]
# Of four things.
NO_ROWS = ["1", "2-1", "1-1", "0-1", "01-2", "1-5", "4-5", "1-13", "1-2,", ",1-2", "1-2,,1-2", "1-2;1-2", "1-2/1-2",
           "(1,2)", "None", "nones", "none,1-2", "1-2-3", "-", ",", "1-2.", ",".join(["1-2"] * 61), "1-2,1-10"]
NO_ORDERS = ["(1)", "(1,2)", "(1,2,3)", "(1)(2)(3)", "(1,2,3,4,5)", "(1)(2)(3)(4)(5)", "(2,1)(3)(4)", "(3)(1,2)(4)",
             "(1,2)(3,5)", "(1,1)(2)(3)", "(1,2,3,4", "1,2,3,4)", "1,2,3,4", "(1,2),(3,4)", "(1,,2)(3)(4)",
             "(01,2)(3)(4)", "()", "none", "1-2", "(1,2)(3)", "(1,2)(3)(4)()", "(,1,2)(3)(4)", "[1,2,3,4]"]


def wrote(row):
    """The TEXT of a row."""
    return show_row(row).replace(" ", ",")


def desk_with(n, rows):
    """A desk of n things that keeps the rows by their names."""
    desk = Desk(n)
    for name, row in rows.items():
        desk.say(f"row {name} {wrote(row)}")
    return desk


def all_kept(desk):
    """All rows that the desk keeps, by their names."""
    names = desk.say("names")
    return {} if names == "none" else {name: desk.say(f"show {name}") for name in names.split(",")}


def filled(form, words):
    """The row of text with words in the place of what is due."""
    return " ".join([words.get(due, due) for due in form.split(" ")])


class DeskCase(unittest.TestCase):
    def check_told(self, desk, row, due):
        told = desk.say(row)
        self.assertIs(type(told), str)
        self.assertEqual(told, due)

    def check_refused(self, desk, name, row):
        """The row is refused so, and the desk stays as it was."""
        before = all_kept(desk)
        check_refused(self, name, desk.say, row)
        self.assertEqual(all_kept(desk), before)


class RowsThatCannotBeRead(DeskCase):
    def setUp(self):
        self.desk = desk_with(4, {"a": star(great(4)), "b": [], "c": [(1, 2), (1, 2)]})

    def test_all_that_can_be_read(self):
        # What is spoilt below is taken as it stands here.
        for form in FORMS:
            desk = desk_with(4, {"a": star(great(4))})
            self.assertIs(type(desk.say(filled(form, GOOD_WORDS))), str)

    def test_other_first_words(self):
        for word in ["", " ", "Row", "ROW", "rows", "ro", "name", "Names", "names,", "list", "tree,", "a", "none", "ok",
                     "new", "row,a,none", "x" * 900]:
            self.check_refused(self.desk, "NoText", word)
            for form in FORMS:
                behind = filled(form, GOOD_WORDS).split(" ")[1:]
                self.check_refused(self.desk, "NoText", " ".join([word] + behind))

    def test_too_few_and_too_many_words(self):
        for form in FORMS:
            words = filled(form, GOOD_WORDS).split(" ")
            for many in range(1, len(words)):
                self.check_refused(self.desk, "NoText", " ".join(words[:many]))
            for more in ["a", "b", "nil", "1", "none", "1-2", "(1,2,3,4)"]:
                self.check_refused(self.desk, "NoText", " ".join(words + [more]))

    def test_empty_words(self):
        self.check_refused(self.desk, "NoText", "")
        for form in FORMS:
            words = filled(form, GOOD_WORDS).split(" ")
            for at in range(len(words) + 1):
                self.check_refused(self.desk, "NoText", " ".join(words[:at] + [""] + words[at:]))
            for at in range(len(words)):
                self.check_refused(self.desk, "NoText", " ".join(words[:at] + [""] + words[at + 1:]))

    def test_words_that_are_not_due(self):
        wrong = {"NEW": NO_NAMES, "NAME": NO_NAMES, "K": NO_NUMBERS, "TEXT": NO_ROWS, "ORDER": NO_ORDERS}
        for form in FORMS:
            words = filled(form, GOOD_WORDS).split(" ")
            for at, due in enumerate(form.split(" ")):
                for word in wrong.get(due, []):
                    self.check_refused(self.desk, "NoText", " ".join(words[:at] + [word] + words[at + 1:]))

    def test_names_of_one_and_of_eight_letters(self):
        for name in ["a", "z", "ab", "abcdefgh", "zzzzzzzz", "none", "names", "row", "forth", "ok"]:
            desk = Desk(2)
            self.check_told(desk, f"row {name} 1-2", "ok")
            self.check_told(desk, f"show {name}", "1-2")
            self.check_told(desk, "names", name)
        self.check_refused(self.desk, "NoText", "row abcdefghi 1-2")

    def test_numbers_of_nine_and_of_ten_figures(self):
        self.check_refused(self.desk, "NoMove", "forth a 999999999")
        self.check_refused(self.desk, "NoText", "forth a 1000000000")
        self.check_refused(self.desk, "NoBound", "count a 999999999")
        self.check_refused(self.desk, "NoText", "count a 1000000000")
        self.check_refused(self.desk, "NoText", "count a 05")
        self.check_refused(self.desk, "NoMove", "back a 0")

    def test_texts_of_another_count_of_things(self):
        for n in range(1, 13):
            desk = Desk(n)
            for other in range(1, 13):
                text = show_order(great(other)).replace(" ", ",")
                for word in ["star", "home"]:
                    if other == n:
                        self.check_told(desk, f"{word} a {text}", "ok")
                    else:
                        self.check_refused(desk, "NoText", f"{word} a {text}")
            if n < 12:
                self.check_refused(desk, "NoText", f"row a 1-{n + 1}")
            if n > 1:
                self.check_told(desk, f"row a 1-{n}", "ok")

    def test_sixty_and_sixty_one_exchanges(self):
        self.check_told(self.desk, "row x " + ",".join(["1-2"] * 60), "ok")
        self.check_refused(self.desk, "NoText", "row x " + ",".join(["1-2"] * 61))

    def test_no_text_goes_ahead_of_no_name(self):
        for row in ["copy A nil", "copy nil A", "join new nil A", "join new A nil", "join A nil nil", "forth nil 01",
                    "back nil x", "lead nil A", "lead A nil", "begun nil 1x", "count nil 1234567890", "joined nil -1",
                    "show nil nil", "drop nil nil", "lead nil", "names nil", "show nil ", " show nil", "kind  nil"]:
            self.check_refused(self.desk, "NoText", row)


class NamesThatStandForNothing(DeskCase):
    def test_in_each_place(self):
        for n in [4, 12]:
            desk = desk_with(n, {"a": star(great(n))})
            for form in FORMS:
                dues = form.split(" ")
                words = filled(form, {**GOOD_WORDS, "ORDER": show_order(great(n)).replace(" ", ",")}).split(" ")
                for at, due in enumerate(dues):
                    if due == "NAME":
                        for name in ["b", "aa", "nil", "abcdefgh", "none", "new"]:
                            self.check_refused(desk, "NoName", " ".join(words[:at] + [name] + words[at + 1:]))

    def test_both_names(self):
        desk = desk_with(4, {"a": []})
        for row in ["join new b c", "join new a b", "join new b a", "join b b b", "lead b c", "lead a b", "lead b a",
                    "copy b c", "copy b b", "join a a b"]:
            self.check_refused(desk, "NoName", row)

    def test_a_name_that_was_dropped(self):
        desk = desk_with(4, {"a": [(1, 2)], "b": []})
        self.check_told(desk, "drop a", "ok")
        for row in ["show a", "drop a", "forth a 1", "copy b a", "lead a b", "lead b a", "join b a b"]:
            self.check_refused(desk, "NoName", row)
        self.check_told(desk, "row a 3-4", "ok")
        self.check_told(desk, "show a", "3-4")

    def test_no_name_goes_ahead_of_what_the_row_tells(self):
        desk = desk_with(12, {"a": [(1, 2)] * 60, "b": [(1, 2)] * 2})
        for row in ["forth nil 0", "back nil 60", "holes nil", "lead nil a", "lead a nil", "tree nil", "cars nil",
                    "begun nil 99", "count nil 21", "joined nil 21", "count nil 1", "join new nil a", "join new a nil"]:
            self.check_refused(desk, "NoName", row)


class RowsThatAreKept(DeskCase):
    def test_row(self):
        desk = Desk(4)
        for row in [[(1, 2), (1, 4)], [], [(3, 4)] * 60, [(2, 3)]]:
            self.check_told(desk, "row a " + wrote(row), "ok")
            self.check_told(desk, "show a", wrote(row))
        self.check_told(desk, "row b none", "ok")
        self.assertEqual(all_kept(desk), {"a": "2-3", "b": "none"})

    def test_rows_of_many_things(self):
        for n in range(1, 13):
            desk = Desk(n)
            for row in all_rows(n, 0) + (some_rows(n, 12, 60) if n > 1 else []):
                self.check_told(desk, "row a " + wrote(row), "ok")
                self.check_told(desk, "show a", wrote(row))

    def test_star_and_home(self):
        for order in orders(1) + orders(3) + orders(4) + some_orders(12, 30):
            desk = Desk(len(order))
            text = show_order(order).replace(" ", ",")
            self.check_told(desk, f"star a {text}", "ok")
            self.check_told(desk, f"home b {text}", "ok")
            self.assertEqual(all_kept(desk), {"a": wrote(star(order)), "b": wrote(home(order))})
            self.check_told(desk, "order a", text)
            self.check_told(desk, "order b", text)
        desk = desk_with(4, {"a": [(1, 2)]})
        self.check_told(desk, "star a (1,3,2)(4)", "ok")
        self.check_told(desk, "show a", "1-3,1-2")
        self.check_told(desk, "home a (1,3,2)(4)", "ok")
        self.check_told(desk, "show a", "1-2,2-3")

    def test_copy(self):
        desk = desk_with(4, {"a": [(1, 2), (2, 3)], "b": [(1, 4)]})
        self.check_told(desk, "copy c a", "ok")
        self.check_told(desk, "copy b a", "ok")
        self.check_told(desk, "copy a a", "ok")
        self.assertEqual(all_kept(desk), {name: "1-2,2-3" for name in "abc"})
        self.check_told(desk, "forth a 1", "ok")
        self.assertEqual(all_kept(desk), {"a": "2-3,1-3", "b": "1-2,2-3", "c": "1-2,2-3"})
        self.check_told(desk, "back c 1", "ok")
        self.assertEqual(all_kept(desk), {"a": "2-3,1-3", "b": "1-2,2-3", "c": "1-3,1-2"})
        self.check_told(desk, "join b b a", "ok")
        self.check_told(desk, "drop a", "ok")
        self.assertEqual(all_kept(desk), {"b": "1-2,2-3,2-3,1-3", "c": "1-3,1-2"})

    def test_join(self):
        desk = desk_with(4, {"a": [(1, 2), (2, 3)], "b": [(1, 4)], "e": []})
        for row, due in [("join c a b", "1-2,2-3,1-4"), ("join c b a", "1-4,1-2,2-3"), ("join c e e", "none"),
                         ("join c e b", "1-4"), ("join c b e", "1-4"), ("join c b b", "1-4,1-4")]:
            self.check_told(desk, row, "ok")
            self.assertEqual(all_kept(desk), {"a": "1-2,2-3", "b": "1-4", "c": due, "e": "none"})
        self.check_told(desk, "join a a a", "ok")
        self.check_told(desk, "show a", "1-2,2-3,1-2,2-3")

    def test_join_of_sixty_and_of_sixty_one(self):
        desk = desk_with(12, {"a": exchanges(12)[:30], "b": exchanges(12)[30:60], "c": [(1, 2)], "e": []})
        self.check_told(desk, "join d a b", "ok")
        self.check_told(desk, "show d", wrote(exchanges(12)[:60]))
        self.check_told(desk, "join d d e", "ok")
        self.check_told(desk, "join d e d", "ok")
        for row in ["join d d c", "join d c d", "join c d c", "join new c d", "join new d d", "join d d a"]:
            self.check_refused(desk, "NoBound", row)

    def test_forth_and_back(self):
        for row in all_rows(4, 3)[::7] + [exchanges(4) * 10]:
            for k, way in product(range(len(row) + 3), ["forth", "back"]):
                desk = desk_with(4, {"a": row, "b": row})
                if 1 <= k < len(row):
                    self.check_told(desk, f"{way} a {k}", "ok")
                    self.assertEqual(all_kept(desk), {"a": wrote(moved(row, k, way)), "b": wrote(row)})
                else:
                    self.check_refused(desk, "NoMove", f"{way} a {k}")
        desk = desk_with(3, {"a": [(1, 2), (2, 3)], "b": [(1, 2)], "e": []})
        self.check_told(desk, "forth a 1", "ok")
        self.check_told(desk, "show a", "2-3,1-3")
        self.check_told(desk, "back a 1", "ok")
        self.check_told(desk, "back a 1", "ok")
        self.check_told(desk, "show a", "1-3,1-2")
        for row in ["forth b 1", "back b 1", "forth b 0", "forth e 0", "back e 1", "forth a 2", "back a 0"]:
            self.check_refused(desk, "NoMove", row)

    def test_drop(self):
        desk = desk_with(2, {"a": [], "b": [(1, 2)]})
        self.check_told(desk, "drop a", "ok")
        self.assertEqual(all_kept(desk), {"b": "1-2"})
        self.check_told(desk, "drop b", "ok")
        self.assertEqual(all_kept(desk), {})
        self.check_refused(desk, "NoName", "drop b")

    def test_names(self):
        desk = Desk(2)
        self.check_told(desk, "names", "none")
        self.check_told(desk, "row z none", "ok")
        self.check_told(desk, "names", "z")
        for name in ["b", "ab", "abc", "a", "zz", "aaaaaaaa"]:
            self.check_told(desk, f"row {name} 1-2", "ok")
        self.check_told(desk, "names", "a,aaaaaaaa,ab,abc,b,z,zz")
        self.check_told(desk, "row ab none", "ok")
        self.check_told(desk, "drop abc", "ok")
        self.check_told(desk, "names", "a,aaaaaaaa,ab,b,z,zz")


class WhatIsToldOfRows(DeskCase):
    def test_known_ones(self):
        desk = desk_with(4, {"a": [(1, 2), (1, 4)], "e": [], "t": [(1, 2)] * 2, "s": star(great(4)),
                             "x": [(1, 3), (2, 4)]})
        for row, due in [
                ("show a", "1-2,1-4"), ("order a", "(1,2,4)(3)"), ("kind a", "3,1"), ("least a", "yes"),
                ("parts a", "1,2,4/3"), ("show e", "none"), ("order e", "(1)(2)(3)(4)"), ("kind e", "1,1,1,1"),
                ("least e", "yes"), ("parts e", "1/2/3/4"), ("least t", "no"), ("kind t", "1,1,1,1"), ("kind s", "4"),
                ("parts t", "1,2/3/4"), ("parts s", "1,2,3,4"), ("parts x", "1,3/2,4"), ("holes s", "0"),
                ("tree s", "0,0,0"), ("cars s", "1,1,1"), ("begun s 0", "1/2/3/4"), ("begun s 1", "1,2/3/4"),
                ("begun s 3", "1,2,3,4"),
                ("count s 3", "16"), ("count s 5", "640"), ("count s 4", "0"), ("joined s 3", "16"), ("count e 0", "1"),
                ("joined e 0", "0"), ("count e 2", "6"), ("joined e 2", "0"), ("lead e e", "none")]:
            self.check_told(desk, row, due)
        for name in "aetx":
            self.check_refused(desk, "Apart", f"holes {name}")

    def test_many_rows(self):
        rows = [(3, row) for many in range(5) for row in all_rows(3, many)]
        for n, row in rows + [(12, row) for row in some_rows(12, 40, 60)] + [(1, [])]:
            desk = desk_with(n, {"a": row})
            order = order_of(n, row)
            self.check_told(desk, "order a", show_order(order).replace(" ", ","))
            self.check_told(desk, "kind a", ",".join([str(length) for length in kind(order)]))
            self.check_told(desk, "least a", "yes" if is_least(n, row) else "no")
            self.check_told(desk, "parts a", show_sharing(parts(n, row)).replace(" ", ","))
            if len(parts(n, row)) == 1:
                self.check_told(desk, "holes a", str(holes(n, row)))
            else:
                self.check_refused(desk, "Apart", "holes a")

    def test_many_holes(self):
        self.check_told(desk_with(2, {"a": [(1, 2)] * 60}), "holes a", "29")
        self.check_told(desk_with(1, {"a": []}), "holes a", "0")

    def test_asking_changes_nothing(self):
        desk = desk_with(4, {"a": star(great(4)), "b": home(great(4))})
        before = all_kept(desk)
        for form in FORMS[8:]:
            for step in range(2):
                first = desk.say(filled(form, GOOD_WORDS))
                self.assertEqual(desk.say(filled(form, GOOD_WORDS)), first)
        self.assertEqual(all_kept(desk), before)


class Leading(DeskCase):
    def check_lead(self, desk, n, one, other):
        told = desk.say("lead a b")
        moves = [] if told == "none" else [move.split(".") for move in told.split(",")]
        for move in moves:
            self.assertEqual(len(move), 2)
            self.assertEqual(str(int(move[0])), move[0])
        self.assertEqual(walked(one, [(int(k), way) for k, way in moves]), other)
        self.assertEqual(all_kept(desk), {"a": wrote(one), "b": wrote(other)})
        # The walk leads there at the desk too.
        for k, way in moves:
            self.check_told(desk, f"{way} a {k}", "ok")
        self.check_told(desk, "show a", wrote(other))

    def test_walks(self):
        for order in [great(8), plain(8)] + some_orders(8, 8) + orders(3) + orders(1):
            rows = some_least_rows(order, 3) + [star(order), home(order)]
            for one, other in product(rows, repeat=2):
                self.check_lead(desk_with(len(order), {"a": one, "b": other}), len(order), one, other)

    def test_just_one_walk_of_one_move(self):
        desk = desk_with(2, {"a": [(1, 2)], "b": [(1, 2)]})
        self.check_told(desk, "lead a b", "none")
        self.check_told(desk, "lead a a", "none")

    def test_nine_things(self):
        for n in range(9, 13):
            desk = desk_with(n, {"a": star(great(n)), "b": [(1, 2)] * 2, "e": []})
            for row in ["lead a a", "lead a b", "lead b a", "lead b b", "lead a e", "lead e e"]:
                self.check_refused(desk, "NoBound", row)
        desk = desk_with(8, {"a": star(great(8))})
        self.assertIs(type(desk.say("lead a a")), str)

    def test_rows_that_are_not_least(self):
        desk = desk_with(8, {"a": star(great(8)), "b": [(1, 2)] * 2, "c": [(1, 2)] * 3, "e": []})
        for row in ["lead a b", "lead b a", "lead b b", "lead b e", "lead e b", "lead c a", "lead a c", "lead b c"]:
            self.check_refused(desk, "NotLeast", row)

    def test_rows_of_unlike_orders(self):
        desk = desk_with(8, {"a": star(great(8)), "b": [(1, 2)], "c": [(1, 3)], "e": []})
        for one, other in product("abce", repeat=2):
            if one != other:
                self.check_refused(desk, "Unlike", f"lead {one} {other}")


class TheGreatRound(DeskCase):
    def test_trees_cars_and_beginnings(self):
        rows = [row for n in range(1, 5) for row in great_rows(n)] + some_least_rows(great(12), 10)
        for row in rows:
            n = len(row) + 1
            desk = desk_with(n, {"a": row})
            self.check_told(desk, "tree a", ",".join([str(elder) for elder in tree_of(row)]) or "none")
            self.check_told(desk, "cars a", ",".join([str(number) for number in cars_of(row)]) or "none")
            for j, sharing in enumerate(beginnings(row)):
                self.check_told(desk, f"begun a {j}", show_sharing(sharing).replace(" ", ","))
            for j in [n, n + 1, 60, 999999999]:
                self.check_refused(desk, "NoBound", f"begun a {j}")

    def test_one_thing(self):
        desk = desk_with(1, {"a": []})
        self.check_told(desk, "tree a", "none")
        self.check_told(desk, "cars a", "none")
        self.check_told(desk, "begun a 0", "1")
        self.check_refused(desk, "NoBound", "begun a 1")

    def test_rows_that_are_no_least_row_of_it(self):
        for n in [2, 3, 4, 12]:
            rows = [star(great(many)) for many in range(1, n)] + [star(great(n)) + [(1, 2)] * 2, [(1, 2)] * 60]
            rows += [row for row in NOT_GREAT if all(b <= n for a, b in row)]
            rows += [row for many in range(3) for row in all_rows(n, many)[:40]]
            for row in rows:
                if order_of(n, row) == great(n) and len(row) == n - 1:
                    continue
                desk = desk_with(n, {"a": row})
                for word in ["tree a", "cars a", "begun a 0", f"begun a {n - 1}", f"begun a {n}", "begun a 99"]:
                    self.check_refused(desk, "NotGreat", word)


class Counting(DeskCase):
    def test_counts(self):
        for n in [1, 2, 3, 5, 10]:
            for row in ([star(order) for order in some_orders(n, 3)] + [[], star(great(n))]):
                desk = desk_with(n, {"a": row})
                lengths = kind(order_of(n, row))
                for many in [0, 1, 2, 9, 19, 20]:
                    self.check_told(desk, f"count a {many}", str(counted(lengths, many)))
                    self.check_told(desk, f"joined a {many}", str(joined(lengths, many)))

    def test_rows_that_are_not_least_count_by_their_order(self):
        desk = desk_with(3, {"a": [(1, 2), (1, 3), (2, 3)]})
        self.check_told(desk, "count a 3", "9")
        self.check_told(desk, "joined a 3", "8")

    def test_out_of_bounds(self):
        for n in range(1, 11):
            desk = desk_with(n, {"a": star(great(n))})
            for word, many in product(["count", "joined"], [21, 22, 100, 999999999]):
                self.check_refused(desk, "NoBound", f"{word} a {many}")
        for n in [11, 12]:
            desk = desk_with(n, {"a": star(great(n)), "e": []})
            for word, name, many in product(["count", "joined"], "ae", [0, 1, 20, 21]):
                self.check_refused(desk, "NoBound", f"{word} {name} {many}")


class DesksByThemselves(DeskCase):
    def test_two_desks_asked_by_turns(self):
        one, other = Desk(4), Desk(4)
        self.check_told(one, "row a 1-2,2-3", "ok")
        self.check_told(other, "names", "none")
        self.check_refused(other, "NoName", "show a")
        self.check_told(other, "row a 3-4", "ok")
        self.check_told(one, "show a", "1-2,2-3")
        self.check_told(one, "forth a 1", "ok")
        self.check_told(other, "show a", "3-4")
        self.check_told(other, "drop a", "ok")
        self.check_told(one, "show a", "2-3,1-3")
        self.check_told(one, "names", "a")
        self.check_told(other, "names", "none")

    def test_desks_of_unlike_counts_of_things(self):
        desks = {n: Desk(n) for n in range(1, 13)}
        for n, desk in desks.items():
            self.check_told(desk, "star a " + show_order(great(n)).replace(" ", ","), "ok")
        for n, desk in desks.items():
            self.check_told(desk, "order a", show_order(great(n)).replace(" ", ","))
            self.check_told(desk, "kind a", str(n))

    def test_the_same_rows_told_to_two_desks(self):
        rows = ["row a 1-2,2-3,3-4", "home b (1,4,2)(3)", "join c a b", "forth c 2", "copy d c", "back d 3", "show c",
                "show d", "parts c", "order c", "least c", "star e (1,2,3,4)", "tree e", "cars e", "begun e 2", "names"]
        one, other = Desk(4), Desk(4)
        told = [one.say(row) for row in rows]
        self.assertEqual([other.say(row) for row in rows], told)
        self.assertEqual(all_kept(one), all_kept(other))


if __name__ == "__main__":
    unittest.main()
