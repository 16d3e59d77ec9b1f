"""Exchanges led past one another: moves, walks, and all least rows of an order."""

from swapstars.errors import NoMove, NotLeast, Unlike
from swapstars.orders import rounds, then
from swapstars.rows import exchanged, is_least, led
from swapstars.whole import is_between

UNDOING = {"forth": "back", "back": "forth"}


def carried(exchange, other):
    """The exchange of the two things to which the other one leads those of the exchange."""
    return tuple(sorted([exchanged(other, thing) for thing in exchange]))


def moved(row, k, way):
    """The row with its exchanges at the places k and k + 1 led past one another."""
    if not is_between(k, 1, len(row) - 1):
        raise NoMove("there are no two exchanges at this place")
    if way not in UNDOING:
        raise NoMove("a move goes forth or back")
    s, t = row[k - 1], row[k]
    pair = [t, carried(s, t)] if way == "forth" else [carried(t, s), s]
    return row[:k - 1] + pair + row[k + 1:]


def walked(row, moves):
    """The row when all moves are done, one behind another."""
    reached = list(row)
    for k, way in moves:
        reached = moved(reached, k, way)
    return reached


def nearest_other(row, least):
    """How far apart, and at which places, an exchange of the least thing and one to be made such stand.

    These are the two nearest ones that share a thing; None where all exchanges
    of the round are those of its least thing.
    """
    found = [(abs(at - other), at, other)
             for at, exchange in enumerate(row, start=1) if exchange[0] == least
             for other, pair in enumerate(row, start=1) if pair[0] != least and exchange[1] in pair]
    return min(found, default=None)


def joining_move(apart, at, other):
    """The move that leads the exchange at other to that of the least thing at the place at."""
    # On its way it stays as it is and changes none of the least thing, for
    # it shares nothing with these; only where they meet it becomes one too.
    meets = apart == 1
    if at < other:
        return (other - 1, "back" if meets else "forth")
    return (other, "forth" if meets else "back")


def starward(row, leasts):
    """A next move of a least row towards its star row; None where it is the star row."""
    for least in leasts:
        found = nearest_other(row, least)
        if found is not None:
            apart, at, other = found
            return joining_move(apart, at, other)
    # Now the exchanges of each round stand in the order of the star, but
    # rounds may stand among one another: these share nothing.
    for k in range(1, len(row)):
        if row[k - 1][0] > row[k][0]:
            return (k, "forth")
    return None


def to_star(n, row):
    """A walk that leads a least row to the star row of its order."""
    if not is_least(n, row):
        raise NotLeast("the row is not least")
    leasts = [found[0] for found in rounds(led(n, row))]
    moves = []
    move = starward(row, leasts)
    while move is not None:
        moves.append(move)
        row = walked(row, [move])
        move = starward(row, leasts)
    return moves


def between(n, one, other):
    """A walk that leads one least row to another one of the same order."""
    # Both are asked for first: NotLeast goes ahead of Unlike.
    there = to_star(n, one)
    behind = to_star(n, other)
    if led(n, one) != led(n, other):
        raise Unlike("the two rows lead to unlike orders")
    return there + [(k, UNDOING[way]) for k, way in reversed(behind)]


def cuts(order):
    """The exchanges that cut a round of the order in two, sorted."""
    return sorted([(a, b) for found in rounds(order) for a in found for b in found if a < b])


def least_rows(order):
    """All least rows of the order, sorted."""
    firsts = cuts(order)
    if len(firsts) == 0:
        return [[]]
    # An exchange undoes itself: behind it, what it leaves of the order is left to do.
    return [[first] + rest for first in firsts
            for rest in least_rows(then(led(len(order), [first]), order))]
