"""Cars that park, which tell the least rows of the great round."""

from swapstars.errors import NoCars
from swapstars.rows import check_great
from swapstars.whole import is_between

MOST_CARS = 11


def places(cars):
    """The place that each car takes, as if there were places beyond the last one too."""
    taken = []
    for number in cars:
        place = number
        while place in taken:
            place += 1
        taken.append(place)
    return taken


def parks(thing):
    """Whether any thing is a list of numbers of cars that all find a place."""
    if not isinstance(thing, list) or len(thing) > MOST_CARS:
        return False
    if not all([is_between(number, 1, len(thing)) for number in thing]):
        return False
    return all([place <= len(thing) for place in places(thing)])


def check_cars(cars):
    """Refuse cars that do not park."""
    if not parks(cars):
        raise NoCars("the cars do not all find a place")


def parked(cars):
    """The places taken, car by car."""
    check_cars(cars)
    return places(cars)


def cars_of(row):
    """The lesser things of the exchanges of a least row of the great round."""
    check_great(row)
    return [a for a, b in row]


def cut_at(things, ahead):
    """How many of the things, from the first on, one exchange parts from the rest.

    It is the first count of things, the rest not being empty, of which as many
    stand among the numbers ahead as the count, less 1.
    """
    many = 1
    while sum([ahead.count(thing) for thing in things[:many]]) != many - 1:
        many += 1
    return many


def row_of_cars(cars):
    """The only least row of the great round that has these lesser things."""
    check_cars(cars)
    row = []
    lists = [list(range(1, len(cars) + 2))]
    for at in range(len(cars) - 1, -1, -1):
        a = cars[at]
        cut = [things for things in lists if a in things][0]
        begin = cut.index(a)
        end = begin + cut_at(cut[begin:], cars[:at])
        row.append((a, cut[end]))
        lists = [things for things in lists if a not in things] + [cut[begin:end], cut[:begin] + cut[end:]]
    return row[::-1]
