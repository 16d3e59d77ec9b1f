"""A looker that tells of papers whether they hold, and finds nothing itself."""

from swapstars.counts import MOST_THINGS_IN_TABLE, counts_of_next, counts_of_none, kind_steps
from swapstars.errors import NoMove
from swapstars.moves import walked
from swapstars.orders import MOST_THINGS, great, is_order, rounds, then
from swapstars.rows import is_row, led
from swapstars.shares import is_chain, is_sharing, order_by
from swapstars.whole import is_between, is_whole

PARTS_OF_PAPERS = {"row": 3, "least": 3, "walk": 5, "half": 4, "chain": 3, "counts": 3}


def row_holds(order, row):
    """Whether these are an order and a row that leads to it."""
    return is_order(order) and is_row(len(order), row) and led(len(order), row) == order


def least_holds(order, row):
    """Whether these are an order and a row that leads to it with as few exchanges as can be."""
    return row_holds(order, row) and len(row) == len(order) - len(rounds(order))


def is_move(thing):
    """Whether any thing is a tuple of a whole number and a text."""
    return isinstance(thing, tuple) and len(thing) == 2 and is_whole(thing[0]) and isinstance(thing[1], str)


def is_walk(thing):
    """Whether any thing is a list of moves, be they such as can be done or not."""
    return isinstance(thing, list) and all([is_move(move) for move in thing])


def walk_holds(n, one, moves, other):
    """Whether these are two rows of n things and a walk that leads the one to the other."""
    if not is_between(n, 1, MOST_THINGS) or not is_row(n, one) or not is_row(n, other) or not is_walk(moves):
        return False
    try:
        return walked(one, moves) == other
    except NoMove:
        return False


def half_holds(n, one, other):
    """Whether these are two sharings of n things whose orders make the great round."""
    if not is_between(n, 1, MOST_THINGS) or not is_sharing(n, one) or not is_sharing(n, other):
        return False
    return then(order_by(one), order_by(other)) == great(n)


def chain_holds(n, sharings):
    """Whether this is a chain of sharings of n things."""
    if not is_between(n, 1, MOST_THINGS) or not isinstance(sharings, list):
        return False
    return all([is_sharing(n, sharing) for sharing in sharings]) and is_chain(sharings)


def is_counts(thing, many):
    """Whether any thing is a list of so many whole numbers."""
    return isinstance(thing, list) and len(thing) == many and all([is_whole(number) for number in thing])


def counts_hold(n, lists):
    """Whether the lists are counts at all kinds of n, each next one come of the one ahead."""
    if not is_between(n, 1, MOST_THINGS_IN_TABLE) or not isinstance(lists, list) or len(lists) == 0:
        return False
    first = counts_of_none(n)
    if not all([is_counts(counts, len(first)) for counts in lists]) or lists[0] != first:
        return False
    steps = kind_steps(n)
    return all([counts_of_next(steps, ahead) == counts for ahead, counts in zip(lists, lists[1:])])


def paper_holds(word, paper):
    """Whether a paper of this word, with as many parts as are due, holds."""
    if word == "row":
        return row_holds(paper[1], paper[2])
    if word == "least":
        return least_holds(paper[1], paper[2])
    if word == "walk":
        return walk_holds(paper[1], paper[2], paper[3], paper[4])
    if word == "half":
        return half_holds(paper[1], paper[2], paper[3])
    if word == "chain":
        return chain_holds(paper[1], paper[2])
    return counts_hold(paper[1], paper[2])


def holds(paper):
    """Whether any thing is a paper that holds."""
    if not isinstance(paper, tuple) or len(paper) == 0 or not isinstance(paper[0], str):
        return False
    word = paper[0]
    return PARTS_OF_PAPERS.get(word) == len(paper) and paper_holds(word, paper)
