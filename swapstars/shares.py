"""Sharings whose parts do not cross, their other halves, and chains of them."""

from swapstars.errors import NoChain, Unlike
from swapstars.orders import back, great, made, rounds, then
from swapstars.rows import check_great, led
from swapstars.whole import is_between


def is_part(n, thing):
    """Whether any thing is a rising list of one or more of n things."""
    if not isinstance(thing, list) or len(thing) == 0:
        return False
    # All are known to be whole numbers before they are compared.
    if not all([is_between(number, 1, n) for number in thing]):
        return False
    return all([low < high for low, high in zip(thing, thing[1:])])


def crosses(one, other):
    """Whether a thing of the other part stands between two of the one, and a further one behind them."""
    return any([a < b < c < d for a in one for c in one for b in other for d in other])


def is_crossed(sharing):
    """Whether any two of the parts cross."""
    return any([crosses(one, other) for one in sharing for other in sharing if one != other])


def is_sharing(n, thing):
    """Whether any thing is a sharing of n things."""
    if not isinstance(thing, list) or not all([is_part(n, part) for part in thing]):
        return False
    if sorted([number for part in thing for number in part]) != list(range(1, n + 1)):
        return False
    return thing == sorted(thing) and not is_crossed(thing)


def many_things(sharing):
    """How many things the sharing shares."""
    return sum([len(part) for part in sharing])


def order_by(sharing):
    """The order that has the parts as its rounds."""
    return made(many_things(sharing), sharing)


def is_inside(part, other):
    """Whether all things of the part are in the other one."""
    return all([thing in other for thing in part])


def within(one, other):
    """Whether each part of the one sharing is within a part of the other."""
    if many_things(one) != many_things(other):
        raise Unlike("the two sharings have unlike counts of things")
    return all([any([is_inside(part, greater) for greater in other]) for part in one])


def shared_by(order):
    """The rounds of the order, each sorted, sorted."""
    return sorted([sorted(found) for found in rounds(order)])


def other_half(sharing):
    """The sharing whose order, behind that of this one, makes the great round."""
    order = order_by(sharing)
    return shared_by(then(back(order), great(len(order))))


def beginnings(row):
    """The sharings behind the first 0, 1, .. exchanges of a least row of the great round."""
    check_great(row)
    n = len(row) + 1
    return [shared_by(led(n, row[:many])) for many in range(n)]


def joins_two(one, other):
    """Whether the other sharing is the one with two of its parts joined."""
    return len(other) == len(one) - 1 and within(one, other)


def is_chain(chain):
    """Whether a list of sharings leads, two parts joined each time, from all alone to all together."""
    if len(chain) == 0:
        return False
    n = many_things(chain[0])
    # Sharings of unlike counts of things cannot be asked whether they lie within one another.
    if any([many_things(sharing) != n for sharing in chain]):
        return False
    if len(chain[0]) != n or len(chain[-1]) != 1:
        return False
    return all([joins_two(one, other) for one, other in zip(chain, chain[1:])])


def exchange_between(one, other):
    """The exchange that leads from the order of the one sharing to that of the next one in a chain."""
    change = then(back(order_by(one)), order_by(other))
    return tuple([thing for thing, led_to in enumerate(change, start=1) if thing != led_to])


def row_of_chain(sharings):
    """The only least row of the great round that has this chain as its beginnings."""
    if not is_chain(sharings):
        raise NoChain("the sharings are no chain")
    return [exchange_between(one, other) for one, other in zip(sharings, sharings[1:])]


def grown(sharing, thing):
    """All ways to put one more thing into a part, or into one of its own."""
    into = [[part + [thing] if at == chosen else list(part) for at, part in enumerate(sharing)]
            for chosen in range(len(sharing))]
    return into + [[list(part) for part in sharing] + [[thing]]]


def sharings(n):
    """All sharings of n things, sorted."""
    found = [[]]
    for thing in range(1, n + 1):
        # Parts that cross go on crossing: these are left out at once.
        found = [further for sharing in found for further in grown(sharing, thing) if not is_crossed(further)]
    return sorted(found)
