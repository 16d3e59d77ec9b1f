"""Rows of exchanges: their orders, parts and holes, and the least ones."""

from swapstars.errors import Apart, NotGreat
from swapstars.orders import great, plain, rounds
from swapstars.whole import is_between

MOST_EXCHANGES = 60


def is_exchange(n, thing):
    """Whether any thing is an exchange of two of n things."""
    if not isinstance(thing, tuple) or len(thing) != 2:
        return False
    # Both are known to be whole numbers before they are compared.
    return all([is_between(number, 1, n) for number in thing]) and thing[0] < thing[1]


def is_row(n, thing):
    """Whether any thing is a row of n things."""
    if not isinstance(thing, list) or len(thing) > MOST_EXCHANGES:
        return False
    return all([is_exchange(n, exchange) for exchange in thing])


def exchanged(exchange, thing):
    """Where the exchange leads the thing."""
    a, b = exchange
    if thing == a:
        return b
    if thing == b:
        return a
    return thing


def led(n, row):
    """The order of the row: the first exchange, then the second one, and so on."""
    leads = list(plain(n))
    for exchange in row:
        leads = [exchanged(exchange, thing) for thing in leads]
    return tuple(leads)


def parts(n, row):
    """The lists of the things that hang together in the row, sorted."""
    part_of = list(range(n + 1))
    for a, b in row:
        kept, joined = part_of[a], part_of[b]
        part_of = [kept if part == joined else part for part in part_of]
    found = {}
    for thing in range(1, n + 1):
        found.setdefault(part_of[thing], []).append(thing)
    return sorted(found.values())


def holes(n, row):
    """How many holes the row has, where all things hang together."""
    if len(parts(n, row)) > 1:
        raise Apart("not all things hang together in the row")
    return (len(row) - n - len(rounds(led(n, row))) + 2) // 2


def is_least(n, row):
    """Whether no row of fewer exchanges leads to the order of the row."""
    return len(row) == n - len(rounds(led(n, row)))


def check_great(row):
    """Refuse what is no least row of the great round of one thing more than it has exchanges."""
    n = len(row) + 1
    # No row of fewer exchanges leads there: so one that does is least, and
    # has no thing beyond n.
    if led(n, row) != great(n):
        raise NotGreat("the row is no least row of the great round")


def star(order):
    """The row of each round's first thing with each further one."""
    return [(found[0], thing) for found in rounds(order) for thing in found[1:]]


def home(order):
    """The only row to the order in which the greater things rise."""
    row = []
    leads = list(order)
    for greater in range(len(order), 0, -1):
        # All greater things stay by now, and no exchange ahead has this
        # one: so the last exchange alone leads it, to a lesser thing.
        lesser = leads[greater - 1]
        if lesser != greater:
            row.append((lesser, greater))
            leads = [exchanged((lesser, greater), thing) for thing in leads]
    return row[::-1]
