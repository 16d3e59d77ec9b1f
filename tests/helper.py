"""What the tests share: things to hand in, and looks at what is told."""

import random
from copy import deepcopy
from itertools import permutations, product

from swapstars import errors

REFUSALS = ["Unlike", "NoRounds", "Apart", "NoMove", "NotLeast", "NotGreat",
            "NoTree", "NoCars", "NoChain", "NoBound", "NoText", "NoName"]

# Whole numbers far off all bounds.
FAR_OFF = [10 ** 9, 10 ** 29, -10 ** 9, -10 ** 29]

# Things of every sort that are no order and no row of anything.
ODD_THINGS = [
    None, True, False, 0, 1, -1, 10 ** 29, "", "1", "(1)", "1-2", "none", (), ((),), ([],),
    (None,), ("1",), (True,), (False,), (0,), (2,), (-1,), ("a", 1), (None, 1), ([1], 2), ((1,), 2),
    [None], [True], [0], ["1-2"], [()], [[]], [[[[[[1]]]]]], ((((((1,),),),),),), [(1, 2), None],
]


def orders(n):
    """All orders of n things."""
    return list(permutations(range(1, n + 1)))


def some_orders(n, many):
    """Some orders of n things, the same ones each time."""
    chance = random.Random(n)
    return [tuple(chance.sample(range(1, n + 1), n)) for at in range(many)]


def exchanges(n):
    """All exchanges of n things."""
    return [(a, b) for b in range(2, n + 1) for a in range(1, b)]


def all_rows(n, many):
    """All rows of so many exchanges of n things."""
    return [list(row) for row in product(exchanges(n), repeat=many)]


def some_rows(n, many, most):
    """Some rows of n things, of at most so many exchanges, the same ones each time."""
    chance = random.Random(n)
    return [[chance.choice(exchanges(n)) for at in range(chance.randint(0, most))] for row in range(many)]


def end_of(thing, row):
    """Where the row leads the thing, exchange by exchange."""
    for a, b in row:
        thing = {a: b, b: a}.get(thing, thing)
    return thing


def hangs_on(order, a):
    """All things to which the order leads a, over and over."""
    found = [a]
    while order[found[-1] - 1] != a:
        found.append(order[found[-1] - 1])
    return found


def some_least_rows(order, many):
    """Some least rows of the order, the same ones each time: rounds are cut until each thing is alone."""
    chance = random.Random(len(order))
    rows = []
    for at in range(many):
        row, left = [], order
        while left != tuple(sorted(left)):
            a, b = chance.choice([pair for pair in exchanges(len(order)) if pair[1] in hangs_on(left, pair[0])])
            left = tuple([{a: b, b: a}.get(thing, thing) for thing in left])
            row.insert(0, (a, b))
        rows.append(row)
    return rows


def order_of(n, row):
    """The order of a row of n things, thing by thing."""
    return tuple([end_of(thing, row) for thing in range(1, n + 1)])


def great_rows(n):
    """All least rows of the great round of n things, by going through all rows."""
    due = tuple(list(range(2, n + 1)) + [1])
    return [row for row in all_rows(n, n - 1) if order_of(n, row) == due]


# Rows of 12 things that are no least row of the great round of one thing more than they have exchanges.
NOT_GREAT = [
    [(1, 3)], [(2, 3)], [(1, 12)], [(11, 12)], [(1, 2), (1, 2)], [(1, 3), (1, 2)], [(1, 2), (2, 3)], [(1, 2), (3, 4)],
    [(1, 2), (1, 4)], [(2, 3), (2, 4)], [(1, 2)] * 3, [(1, 2), (1, 3), (1, 3), (1, 3)], [(1, 2), (1, 3), (1, 5)],
    [(2, 3), (2, 4), (2, 5)], [(1, thing) for thing in range(12, 1, -1)], [(1, thing) for thing in range(2, 12)] * 2,
    [(1, thing) for thing in range(3, 13)], [(1, thing) for thing in range(2, 13)] + [(1, 2)], [(1, 2)] * 11,
    [(1, 2)] * 12, [(1, 2)] * 59, [(1, 2)] * 60, exchanges(12)[:11], exchanges(12)[:60],
]


def lists_in(thing):
    """All lists within a thing, itself too."""
    found = [thing] if isinstance(thing, list) else []
    if isinstance(thing, (list, tuple)):
        for inner in thing:
            found += lists_in(inner)
    return found


def spoil(thing):
    """Change all lists within a thing."""
    for found in lists_in(thing):
        found.reverse()
        found.append("spoilt")


def check_own(case, call, *handed):
    """What is handed in stays, and what is told is new and the asker's own."""
    before, handed = handed, deepcopy(handed)
    told = call(*handed)
    case.assertEqual(handed, before)
    kept = deepcopy(told)
    spoil(handed)
    case.assertEqual(told, kept, "the answer hangs on what was handed in")
    case.assertEqual(call(*deepcopy(before)), kept)
    again = call(*deepcopy(before))
    names = [id(found) for found in lists_in((told, again, handed))]
    case.assertEqual(len(names), len(set(names)), "a list is told twice")
    spoil(told)
    case.assertEqual(again, kept)
    case.assertEqual(call(*deepcopy(before)), kept, "a later answer was changed")


def check_refused(case, name, call, *handed):
    """The refusal is of this class and of no other one, and changes nothing."""
    before = deepcopy(handed)
    with case.assertRaises(ValueError) as caught:
        call(*handed)
    refusal = caught.exception
    case.assertIsInstance(refusal, errors.StarError)
    due = [other for other in REFUSALS if isinstance(refusal, getattr(errors, other))]
    case.assertEqual(due, [name])
    case.assertEqual(handed, before)


def check_great_only(case, call):
    """All rows but the least ones of the great round are refused with NotGreat."""
    for row in NOT_GREAT:
        check_refused(case, "NotGreat", call, row)
    for many in range(4):
        due = great_rows(many + 1)
        for row in all_rows(5, many):
            if row not in due:
                check_refused(case, "NotGreat", call, row)


def check_truth(case, due, told):
    """It is True or False itself that is told."""
    case.assertIs(told, due)
