"""Books and pairs as texts."""

from bandorder.books import book_of, is_name
from bandorder.errors import Full, NoRow, NoText
from bandorder.orders import MOST_THINGS
from bandorder.parts import covers

BELOW = " < "
STROKE = "|"


def show_book(book):
    """The names in no cover, each in a row of its own, then a row for each cover."""
    names, order = book
    tied = covers(order)
    covered = [thing for cover in tied for thing in cover]
    alone = [name for thing, name in enumerate(names) if thing not in covered]
    return "\n".join(alone + [names[low] + BELOW + names[high] for low, high in tied])


def rows_of(text):
    """For each row of a text the words that it parts; the text without signs has no rows."""
    return [row.split(BELOW) for row in text.split("\n")] if text != "" else []


def belows_in(rows):
    """For each name in rows of names those that a row tells right below it."""
    belows = {name: [] for row in rows for name in row}
    for row in rows:
        for low, high in zip(row, row[1:]):
            belows[high].append(low)
    return belows


def read_book(text):
    """The book in turn of all names in a text, each above just those that the rows say, and those below them."""
    rows = rows_of(text)
    if not all([is_name(word) for row in rows for word in row]):
        raise NoText("a row is not one name or several, parted by the sign for below")
    belows = belows_in(rows)
    if len(belows) > MOST_THINGS:
        raise Full("there are more than fourteen names")
    return book_of(belows)


def show_rows(names, rows):
    """The words for some chains or crowds."""
    return [",".join([names[thing] for thing in row]) for row in rows]


def show_pair(names, pair):
    """The chains, the stroke and the crowds of a pair."""
    chains, crowds = pair
    return " ".join(show_rows(names, chains) + [STROKE] + show_rows(names, crowds))


def read_pair(text):
    """A tuple of the chains and the crowds, each a list of names as they stand in the text.

    A blank too many leaves a word without signs, which is no name; so only words need to be looked at.
    """
    words = text.split(" ")
    if words.count(STROKE) != 1:
        raise NoRow("a pair has one stroke")
    at = words.index(STROKE)
    chains = [word.split(",") for word in words[:at]]
    crowds = [word.split(",") for word in words[at + 1:]]
    if not all([is_name(name) for row in chains + crowds for name in row]):
        raise NoRow("what stands in a pair is no name")
    return chains, crowds
