"""A desk that keeps rows by names, and answers rows of text."""

from swapstars.cars import cars_of
from swapstars.counts import counted
from swapstars.errors import NoBound, NoName, NotGreat, NoText
from swapstars.joined import joined
from swapstars.moves import between, moved
from swapstars.orders import kind
from swapstars.rows import MOST_EXCHANGES, holes, home, is_least, led, parts, star
from swapstars.shares import beginnings
from swapstars.texts import read_number, read_order, read_row, show_order, show_row, show_sharing
from swapstars.trees import tree_of

LETTERS = "abcdefghijklmnopqrstuvwxyz"
MOST_LETTERS = 8
MOST_THINGS_LED = 8
MOST_THINGS_COUNTED = 10

# What is due behind each first word: a name of what is to be kept, one that stands for a row, a number, or a TEXT.
DUE = {
    "row": ("new", "row"), "star": ("new", "order"), "home": ("new", "order"), "copy": ("new", "name"),
    "join": ("new", "name", "name"), "forth": ("name", "number"), "back": ("name", "number"), "drop": ("name",),
    "show": ("name",), "order": ("name",), "kind": ("name",), "least": ("name",), "parts": ("name",),
    "holes": ("name",), "lead": ("name", "name"), "tree": ("name",), "cars": ("name",), "begun": ("name", "number"),
    "count": ("name", "number"), "joined": ("name", "number"), "names": (),
}


def one_word(text):
    """The text with commas in the place of blanks."""
    return text.replace(" ", ",")


def with_commas(words):
    """The words with commas between, none where there are none."""
    return "none" if len(words) == 0 else ",".join(words)


def check_name(word):
    """Refuse a word that is no name."""
    if not 1 <= len(word) <= MOST_LETTERS or not all([letter in LETTERS for letter in word]):
        raise NoText("a name has one to eight letters a to z")


def read_word(n, due, word):
    """What the word writes, where this is due."""
    if due == "number":
        return read_number(word)
    # Words have no blanks: so each comma stands for one.
    if due == "row":
        return read_row(n, word.replace(",", " "))
    if due == "order":
        order = read_order(word.replace(",", " "))
        if len(order) != n:
            raise NoText("this is an order of another count of things")
        return order
    check_name(word)
    return word


def row_due(word, given):
    """The row for which the first name is to stand."""
    if word == "star":
        return star(given[1])
    if word == "home":
        return home(given[1])
    if word == "join":
        row = given[1] + given[2]
        if len(row) > MOST_EXCHANGES:
            raise NoBound("a row has at most sixty exchanges")
        return row
    if word == "forth" or word == "back":
        return moved(given[0], given[1], word)
    # A row that was read, or one that is copied: no row that is kept is ever changed, so both may be one.
    return given[1]


def show_order_of(n, given):
    """The order of the row."""
    return one_word(show_order(led(n, given[0])))


def show_kind(n, given):
    """The kind of the row's order."""
    return with_commas([str(length) for length in kind(led(n, given[0]))])


def show_least(n, given):
    """Whether the row is least."""
    return "yes" if is_least(n, given[0]) else "no"


def show_parts(n, given):
    """The parts of the row."""
    return one_word(show_sharing(parts(n, given[0])))


def show_holes(n, given):
    """How many holes the row has."""
    return str(holes(n, given[0]))


def show_lead(n, given):
    """A walk from one row to another one."""
    if n > MOST_THINGS_LED:
        raise NoBound("walks are told for at most eight things")
    return with_commas([f"{k}.{way}" for k, way in between(n, given[0], given[1])])


def check_great_of(n, row):
    """Refuse rows that have not as many exchanges as the least rows of the great round of n things."""
    if len(row) != n - 1:
        raise NotGreat("the row is no least row of the great round of the desk's things")


def show_tree(n, given):
    """The tree of the row."""
    check_great_of(n, given[0])
    return with_commas([str(elder) for elder in tree_of(given[0])])


def show_cars(n, given):
    """The cars of the row."""
    check_great_of(n, given[0])
    return with_commas([str(number) for number in cars_of(given[0])])


def show_begun(n, given):
    """The sharing behind the first exchanges of the row."""
    check_great_of(n, given[0])
    begun = beginnings(given[0])
    if given[1] >= n:
        raise NoBound("the row has not so many exchanges")
    return one_word(show_sharing(begun[given[1]]))


def check_counted(n):
    """Refuse counts for more things than there are kinds of."""
    if n > MOST_THINGS_COUNTED:
        raise NoBound("rows are counted for at most ten things")


def show_count(n, given):
    """How many rows of so many exchanges lead to the row's order."""
    check_counted(n)
    return str(counted(kind(led(n, given[0])), given[1]))


def show_joined(n, given):
    """How many of these rows hang together."""
    check_counted(n)
    return str(joined(kind(led(n, given[0])), given[1]))


def show_kept(n, given):
    """The row itself."""
    return one_word(show_row(given[0]))


ANSWERS = {
    "show": show_kept, "order": show_order_of, "kind": show_kind, "least": show_least, "parts": show_parts,
    "holes": show_holes, "lead": show_lead, "tree": show_tree, "cars": show_cars, "begun": show_begun,
    "count": show_count, "joined": show_joined,
}


class Desk:
    """Rows of n things, by names."""

    def __init__(self, n):
        self.n = n
        self.kept = {}

    def row_of(self, name):
        """The row for which the name stands."""
        if name not in self.kept:
            raise NoName("the name stands for nothing")
        return self.kept[name]

    def say(self, row):
        """Do or tell what the row of text asks for."""
        words = row.split(" ")
        word = words[0]
        if word not in DUE or len(DUE[word]) != len(words) - 1:
            raise NoText("there is no such row of words")
        dues = DUE[word]
        # All words are read before any name is looked for: NoText goes ahead of NoName.
        read = [read_word(self.n, due, written) for due, written in zip(dues, words[1:])]
        given = [self.row_of(value) if due == "name" else value for due, value in zip(dues, read)]
        if word == "names":
            return with_commas(sorted(self.kept))
        if word in ANSWERS:
            answer = ANSWERS[word]
            return answer(self.n, given)
        if word == "drop":
            del self.kept[read[0]]
        else:
            self.kept[read[0]] = row_due(word, given)
        return "ok"
