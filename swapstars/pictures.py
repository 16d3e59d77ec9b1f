"""Pictures of boxes, their numbers at kinds, and counts of rows by them."""

from swapstars.counts import check_many, kinds
from swapstars.errors import Unlike
from swapstars.whole import factorial, power


def contents(picture):
    """The sum of the contents of all boxes."""
    return sum([column - row for row, many in enumerate(picture) for column in range(many)])


def picture_by(pegs):
    """The picture with these pegs, rows without boxes left out."""
    rows = [peg - below for below, peg in enumerate(sorted(pegs))]
    return [many for many in reversed(rows) if many > 0]


def rims(picture, k):
    """What is left where a rim of k boxes is taken off, and the steps of the rim, sorted."""
    pegs = [many + len(picture) - at for at, many in enumerate(picture, start=1)]
    found = []
    for at, peg in enumerate(pegs):
        reached = peg - k
        if reached >= 0 and reached not in pegs:
            steps = len([other for other in pegs if reached < other < peg])
            found.append((picture_by(pegs[:at] + [reached] + pegs[at + 1:]), steps))
    return sorted(found)


def number_by(picture, kind, known):
    """The number of a picture at a kind of as many things; known has those that are worked out."""
    if len(kind) == 0:
        return 1
    key = (tuple(picture), tuple(kind))
    if key not in known:
        numbers = [(number_by(left, kind[1:], known), steps) for left, steps in rims(picture, kind[0])]
        known[key] = sum([number if steps % 2 == 0 else -number for number, steps in numbers])
    return known[key]


def number_at(picture, kind):
    """The number of the picture at the kind."""
    if sum(picture) != sum(kind):
        raise Unlike("the picture has not as many boxes as the kind has things")
    return number_by(picture, kind, {})


def number_table(n):
    """For each kind of n, taken as a picture, its numbers at all kinds of n."""
    known = {}
    return [[number_by(picture, kind, known) for kind in kinds(n)] for picture in kinds(n)]


def by_pictures(kind, m):
    """How many rows of m exchanges lead to an order of the kind, by pictures."""
    check_many(m)
    n = sum(kind)
    known = {}
    total = sum([number_by(picture, [1] * n, known) * number_by(picture, kind, known) * power(contents(picture), m)
                 for picture in kinds(n)])
    return total // factorial(n)
