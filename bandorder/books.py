"""Books: tuples (names, order) of unlike names, one for each thing of an order; and books in turn."""

from bandorder.errors import Ring
from bandorder.orders import with_all_below

SMALL_LETTERS = "abcdefghijklmnopqrstuvwxyz"
MOST_LETTERS = 8


def is_name(text):
    """Whether a text is one to eight small letters."""
    return 1 <= len(text) <= MOST_LETTERS and all([letter in SMALL_LETTERS for letter in text])


def belows_of(book):
    """For each name of a book the names of all that stand below it."""
    names, order = book
    return {name: [names[low] for low in below] for name, below in zip(names, order)}


def next_names(belows, names):
    """The names that are not yet among some, but all that stand below them are."""
    return [name for name in belows if name not in names and all([low in names for low in belows[name]])]


def book_of(belows):
    """The book in turn in which each name stands above those told for it, and what stands below them."""
    names = []
    order = []
    while len(names) < len(belows):
        fitting = next_names(belows, names)
        if len(fitting) == 0:
            raise Ring("a name would stand below itself")
        name = min(fitting)
        order.append(with_all_below(order, [names.index(low) for low in belows[name]]))
        names.append(name)
    return names, order


def in_turn(book):
    """The same names, each above the same ones, in turn."""
    return book_of(belows_of(book))


def with_name(book, name):
    """The book in turn with one name more, above none and below none."""
    belows = belows_of(book)
    belows[name] = []
    return book_of(belows)


def with_tie(book, low, high):
    """The book in turn in which a name stands below another one, too, and what follows of that."""
    belows = belows_of(book)
    belows[high].append(low)
    return book_of(belows)


def without_name(book, gone):
    """The book in turn without a name; the others stand as they did."""
    belows = belows_of(book)
    return book_of({name: [low for low in belows[name] if low != gone] for name in belows if name != gone})
