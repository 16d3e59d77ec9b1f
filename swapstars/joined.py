"""Counts of the rows in which all things hang together."""

from swapstars.counts import check_many, kinds, table_to
from swapstars.errors import NoBound
from swapstars.whole import factorial, power, ways_to_choose


def choices(lengths):
    """The ways to take some of the rounds along: the lengths taken, those left, and how many ways do alike."""
    found = [([], [], 1)]
    for length in reversed(sorted(set(lengths))):
        many = lengths.count(length)
        found = [(taken + [length] * k, left + [length] * (many - k), ways * ways_to_choose(many, k))
                 for taken, left, ways in found for k in range(many + 1)]
    return found


def counts_up_to(kind, m, tables):
    """How many rows of 0, 1, .. to m exchanges lead to an order of the kind; tables has those worked out."""
    n = sum(kind)
    if n not in tables:
        tables[n] = table_to(n, m)
    at = kinds(n).index(kind)
    return [counts[at] for counts in tables[n]]


def side_by_side(some, others, m):
    """How many rows of m exchanges are some in some of the m places and others in all other places."""
    return sum([ways_to_choose(m, many) * some[many] * others[m - many] for many in range(m + 1)])


def joined_up_to(kind, m, known, tables):
    """How many of the rows of 0, 1, .. to m exchanges hang together; known has those worked out."""
    key = tuple(kind)
    if key not in known:
        told = counts_up_to(kind, m, tables)
        for taken, left, ways in choices(kind[1:]):
            # Where nothing is left, all hangs together: these rows are what is asked for.
            if len(left) > 0:
                some = joined_up_to([kind[0]] + taken, m, known, tables)
                others = counts_up_to(left, m, tables)
                told = [count - ways * side_by_side(some, others, many) for many, count in enumerate(told)]
        known[key] = told
    return known[key]


def joined(kind, m):
    """How many rows of m exchanges lead to an order of the kind and let all things hang together."""
    check_many(m)
    return joined_up_to(kind, m, {}, {})[m]


def by_holes(kind, g):
    """How many rows with g holes lead to an order of the kind and let all things hang together."""
    # Below 0 holes the count of exchanges alone might stay within its bounds.
    if g < 0:
        raise NoBound("no row has fewer holes than none")
    return joined(kind, sum(kind) + len(kind) - 2 + 2 * g)


def without_holes(kind):
    """By a product how many rows without holes lead to an order of the kind and let all things hang together."""
    n = sum(kind)
    above = factorial(n + len(kind) - 2) * power(n, len(kind))
    # n to the power of the count of rounds less 3 may have n below.
    below = power(n, 3)
    for length in kind:
        above *= power(length, length)
        below *= factorial(length - 1)
    return above // below


def least_counted(kind):
    """By a product how many least rows an order of the kind has."""
    above = factorial(sum(kind) - len(kind))
    below = 1
    for length in kind:
        above *= power(length, length)
        # The length to the power of the length less 2 may have the length below.
        below *= power(length, 2) * factorial(length - 1)
    return above // below
