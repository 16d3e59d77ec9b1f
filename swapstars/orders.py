"""Orders of the things 1 to n, their rounds and kinds."""

from swapstars.errors import NoRounds, Unlike
from swapstars.whole import is_between, is_whole

MOST_THINGS = 12


def is_order(thing):
    """Whether any thing is an order of 1 to 12 things."""
    if not isinstance(thing, tuple) or not 1 <= len(thing) <= MOST_THINGS:
        return False
    # What is no whole number may not sort, or sort as one.
    if not all([is_whole(number) for number in thing]):
        return False
    return sorted(thing) == list(range(1, len(thing) + 1))


def plain(n):
    """The order that leads each thing to itself."""
    return tuple(range(1, n + 1))


def great(n):
    """The order that leads each thing to the next one, and n to 1."""
    return tuple([thing % n + 1 for thing in range(1, n + 1)])


def then(one, other):
    """The order that does the one and then the other."""
    if len(one) != len(other):
        raise Unlike("the two orders have unlike counts of things")
    return tuple([other[thing - 1] for thing in one])


def back(order):
    """The order that leads each thing home."""
    homes = [0] * len(order)
    for thing, led_to in enumerate(order, start=1):
        homes[led_to - 1] = thing
    return tuple(homes)


def round_from(order, first):
    """The things of the round that has the thing first, begun there."""
    found = [first]
    thing = order[first - 1]
    while thing != first:
        found.append(thing)
        thing = order[thing - 1]
    return found


def rounds(order):
    """The rounds, each begun at its least thing, by their least things."""
    begun = [round_from(order, first) for first in range(1, len(order) + 1)]
    return [found for found in begun if found[0] == min(found)]


def kind(order):
    """The lengths of the rounds, never rising."""
    return sorted([len(found) for found in rounds(order)], reverse=True)


def check_rounds(n, lists):
    """Refuse lists that cannot all be rounds of one order of n things."""
    seen = []
    for things in lists:
        if len(things) == 0:
            raise NoRounds("a round has one thing at least")
        for thing in things:
            if not is_between(thing, 1, n):
                raise NoRounds("a number is none of the things")
            if thing in seen:
                raise NoRounds("a thing stands twice")
            seen.append(thing)


def made(n, lists):
    """The order of n things that has the lists as rounds; other things stay."""
    check_rounds(n, lists)
    leads = list(plain(n))
    for things in lists:
        for at, thing in enumerate(things):
            leads[thing - 1] = things[(at + 1) % len(things)]
    return tuple(leads)
