"""Texts that write orders, rows and sharings, and what they write."""

from swapstars.errors import NoRounds, NoText
from swapstars.orders import MOST_THINGS, made, rounds
from swapstars.rows import is_row
from swapstars.shares import is_sharing

MOST_FIGURES = 9


def show_things(things):
    """The things with blanks between."""
    return " ".join([str(thing) for thing in things])


def show_order(order):
    """The order by its rounds, each in brackets."""
    return "".join(["(" + show_things(found) + ")" for found in rounds(order)])


def show_row(row):
    """The exchanges with blanks between."""
    if len(row) == 0:
        return "none"
    return " ".join([f"{a}-{b}" for a, b in row])


def show_sharing(sharing):
    """The parts with strokes between."""
    return "/".join([show_things(part) for part in sharing])


def check_text(thing):
    """Refuse any thing that is no text."""
    if not isinstance(thing, str):
        raise NoText("this is no text")


def read_number(word):
    """The number that the word writes."""
    # Python takes other signs than the ten figures for figures too.
    if not word.isascii() or not word.isdigit() or len(word) > MOST_FIGURES:
        raise NoText("this is no number of at most nine figures")
    if word != "0" and word.startswith("0"):
        raise NoText("a number has no nought ahead")
    return int(word)


def read_things(text):
    """The numbers that stand with one blank between each two."""
    return [read_number(word) for word in text.split(" ")]


def many_things(lists):
    """How many things stand in the lists; more than there may be are refused."""
    many = sum([len(things) for things in lists])
    if many > MOST_THINGS:
        raise NoText("there are too many things")
    return many


def read_order(text):
    """The order that the text writes."""
    check_text(text)
    lists = [read_things(inner) for inner in text[1:-1].split(")(")]
    many = many_things(lists)
    try:
        order = made(many, lists)
    except NoRounds:
        raise NoText("these are no rounds of an order") from None
    # The brackets at both ends, the order of the rounds, and where each begins.
    if show_order(order) != text:
        raise NoText("the order is not written just so")
    return order


def read_row(n, text):
    """The row of n things that the text writes."""
    check_text(text)
    if text == "none":
        return []
    row = [tuple([read_number(word) for word in pair.split("-")]) for pair in text.split(" ")]
    if not is_row(n, row):
        raise NoText("these are no exchanges of a row")
    return row


def read_sharing(text):
    """The sharing that the text writes."""
    check_text(text)
    sharing = [read_things(inner) for inner in text.split("/")]
    if not is_sharing(many_things(sharing), sharing):
        raise NoText("these are no parts of a sharing")
    return sharing
