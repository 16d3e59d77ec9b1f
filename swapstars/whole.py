"""Whole numbers: what they are, and products of them."""


def is_whole(thing):
    """Whether any thing is an int that is no truth."""
    # Python takes True and False for ints, the document does not.
    return isinstance(thing, int) and not isinstance(thing, bool)


def is_between(thing, low, high):
    """Whether any thing is a whole number from low to high."""
    return is_whole(thing) and low <= thing <= high


def power(base, times):
    """The number taken so many times with itself, 1 for no time."""
    told = 1
    for step in range(times):
        told *= base
    return told


def factorial(n):
    """The product of the numbers from 1 to n."""
    told = 1
    for number in range(2, n + 1):
        told *= number
    return told


def ways_to_choose(n, k):
    """In how many ways k of n things can be chosen."""
    return factorial(n) // (factorial(k) * factorial(n - k))
