"""Trees, which tell the least rows of the great round."""

from swapstars.errors import NoTree
from swapstars.orders import round_from
from swapstars.rows import check_great, led
from swapstars.whole import is_between

MOST_PLACES = 11


def comes_to_none(elders, place):
    """Whether one comes to 0 from the place, going on to the number there, and so on."""
    # Who is not at 0 after as many steps as there are places goes in a ring.
    for step in range(len(elders)):
        if place > 0:
            place = elders[place - 1]
    return place == 0


def is_tree(thing):
    """Whether any thing is a tree."""
    if not isinstance(thing, list) or len(thing) > MOST_PLACES:
        return False
    if not all([is_between(elder, 0, len(thing)) for elder in thing]):
        return False
    return all([comes_to_none(thing, place) for place in range(1, len(thing) + 1)])


def tree_of(row):
    """The tree of a least row of the great round: the elders of its exchanges."""
    check_great(row)
    # For each thing the place of the exchange whose far thing it is.
    far_of = {1: 0}
    while len(far_of) <= len(row):
        for place, (a, b) in enumerate(row, start=1):
            if a in far_of and b not in far_of:
                far_of[b] = place
            elif b in far_of and a not in far_of:
                far_of[a] = place
    return [far_of[a] if far_of[b] == place else far_of[b] for place, (a, b) in enumerate(row, start=1)]


def row_of_tree(tree):
    """The only least row of the great round that has this tree."""
    if not is_tree(tree):
        raise NoTree("the list is no tree")
    # The nameless things are 1, the first one, and m + 1, the far one of the tie at place m.
    ties = [(min(elder + 1, far), max(elder + 1, far)) for far, elder in enumerate(tree, start=2)]
    followed = round_from(led(len(tree) + 1, ties), 1)
    name_of = {thing: name for name, thing in enumerate(followed, start=1)}
    return [tuple(sorted([name_of[a], name_of[b]])) for a, b in ties]


def trees(n):
    """All trees of n things, sorted."""
    lists = [[]]
    for place in range(1, n):
        lists = [begun + [elder] for begun in lists for elder in range(n)]
    return [elders for elders in lists if is_tree(elders)]
