"""What a whole number is."""


def is_whole(thing):
    """Whether any thing is an int that is no truth."""
    # Python takes True and False for ints, the document does not.
    return isinstance(thing, int) and not isinstance(thing, bool)


def is_between(thing, low, high):
    """Whether any thing is a whole number from low to high."""
    return is_whole(thing) and low <= thing <= high
