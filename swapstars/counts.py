"""Kinds of orders, and how many rows of exchanges lead to an order of a kind."""

from swapstars.errors import NoBound
from swapstars.orders import made, plain, then
from swapstars.rows import led
from swapstars.whole import factorial, is_between

MOST_COUNTED = 20
MOST_THINGS_IN_TABLE = 10
MOST_LISTED = 5
MOST_THINGS_LISTED = 4


def kinds_up_to(n, most):
    """All kinds of n without a number above most, sorted."""
    if n == 0:
        return [[]]
    return [[first] + rest for first in range(1, min(n, most) + 1) for rest in kinds_up_to(n - first, first)]


def kinds(n):
    """All kinds of n things, sorted."""
    return kinds_up_to(n, n)


def orders_of(kind):
    """How many orders have the kind."""
    told = factorial(sum(kind))
    for length in kind:
        told //= length
    for length in sorted(set(kind)):
        told //= factorial(kind.count(length))
    return told


def check_many(m):
    """Refuse counts of exchanges for which nothing is counted."""
    if not is_between(m, 0, MOST_COUNTED):
        raise NoBound("the count of exchanges is out of its bounds")


def order_of_kind(kind):
    """One order of the kind: each round has the next things, in their order."""
    lists = []
    begin = 1
    for length in kind:
        lists.append(list(range(begin, begin + length)))
        begin += length
    return made(sum(kind), lists)


def listed(kind, m):
    """How many rows of m exchanges lead to an order of the kind, by going through all rows."""
    n = sum(kind)
    if n > MOST_THINGS_LISTED or not is_between(m, 0, MOST_LISTED):
        raise NoBound("the rows are too many to be listed")
    exchanges = [led(n, [(a, b)]) for b in range(2, n + 1) for a in range(1, b)]
    # One order for each row, also where several rows lead to the same one.
    reached = [plain(n)]
    for step in range(m):
        reached = [then(order, exchange) for order in reached for exchange in exchanges]
    return reached.count(order_of_kind(kind))


def falling(numbers):
    """The numbers as a kind has them, never rising, as a key."""
    return tuple(sorted(numbers, reverse=True))


def joinings(kind):
    """For each two rounds the kind with these joined, and how many exchanges join them."""
    return [(falling(kind[:low] + kind[low + 1:high] + kind[high + 1:] + [kind[low] + kind[high]]),
             kind[low] * kind[high])
            for high in range(len(kind)) for low in range(high)]


def cuttings(kind):
    """For each round and each way to cut it the kind with it cut, and how many exchanges cut it so."""
    return [(falling(kind[:at] + kind[at + 1:] + [i, k - i]), k if i < k - i else i)
            for at, k in enumerate(kind) for i in range(1, k // 2 + 1)]


def kind_steps(n):
    """For each kind of n, in order, the places of the kinds next to it, and how many exchanges lead there."""
    place_of = {tuple(kind): place for place, kind in enumerate(kinds(n))}
    steps = []
    for kind in kinds(n):
        many = {}
        for other, ways in joinings(kind) + cuttings(kind):
            place = place_of[other]
            many[place] = many.get(place, 0) + ways
        steps.append(list(many.items()))
    return steps


def counts_of_none(n):
    """The counts at all kinds of n for no exchange."""
    # The kind of n ones is the first one.
    return [1] + [0] * (len(kinds(n)) - 1)


def counts_of_next(steps, counts):
    """The counts for one exchange more, by the steps of the kinds."""
    return [sum([ways * counts[place] for place, ways in nexts]) for nexts in steps]


def table_to(n, m):
    """The counts at all kinds of n, for 0, 1, .. to m exchanges."""
    steps = kind_steps(n)
    table = [counts_of_none(n)]
    for step in range(m):
        table.append(counts_of_next(steps, table[-1]))
    return table


def counted(kind, m):
    """How many rows of m exchanges lead to an order of the kind, by joining and cutting."""
    check_many(m)
    n = sum(kind)
    return table_to(n, m)[m][kinds(n).index(kind)]


def count_table(n, m):
    """The table of counts of n to m exchanges."""
    check_many(m)
    if not is_between(n, 1, MOST_THINGS_IN_TABLE):
        raise NoBound("the count of things is out of its bounds")
    return table_to(n, m)
