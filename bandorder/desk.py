"""A desk that keeps a book in turn, and answers rows of words."""

from bandorder.bands import bands, steps
from bandorder.books import is_name, with_name, with_tie, without_name
from bandorder.errors import Full, NoName, NoRow
from bandorder.growth import stairs
from bandorder.orders import MOST_THINGS
from bandorder.pairs import by_chains, by_crowds
from bandorder.papers import lets_by
from bandorder.texts import read_pair, show_book, show_pair

FIGURES = "0123456789"


def number_in(word):
    """The whole number that a word tells in figures."""
    if not all([sign in FIGURES for sign in word]) or (word != "0" and word.startswith("0")):
        raise NoRow("a word is no whole number in figures")
    # Without noughts ahead the first three figures of a longer number are as much too great as all of it.
    return int(word[:3])


def show_numbers(numbers):
    return " ".join([str(number) for number in numbers])


def refuse_unknown(names, words):
    """Refuse words that are not in the book; one that is no name is never there."""
    if not all([word in names for word in words]):
        raise NoName("a word is no name in the book")


def add_name(book, words):
    names, order = book
    if not is_name(words[0]) or words[0] in names:
        raise NoName("a word is no name, or in the book")
    if len(names) >= MOST_THINGS:
        raise Full("there are fourteen names")
    return with_name(book, words[0])


def tie_names(book, words):
    names, order = book
    refuse_unknown(names, words)
    return with_tie(book, words[0], words[1])


def drop_name(book, words):
    names, order = book
    refuse_unknown(names, words)
    return without_name(book, words[0])


def answer_bands(book, words):
    names, order = book
    return show_numbers(bands(order))


def answer_steps(book, words):
    names, order = book
    return show_numbers(steps(order))


def answer_chains(book, words):
    names, order = book
    return show_pair(names, by_chains(order, number_in(words[0])))


def answer_crowds(book, words):
    names, order = book
    return show_pair(names, by_crowds(order, number_in(words[0])))


def places_in(names, rows):
    """For each list of names the rising places of these, each once."""
    return [sorted({names.index(name) for name in row}) for row in rows]


def answer_judge(book, words):
    names, order = book
    chains, crowds = read_pair(words[0])
    refuse_unknown(names, [name for row in chains + crowds for name in row])
    return "yes" if lets_by(order, places_in(names, chains), places_in(names, crowds)) else "no"


def answer_show(book, words):
    return show_book(book)


def answer_stairs(book, words):
    names, order = book
    return "\n".join([" ".join([names[thing] for thing in row]) for row in stairs(order)])


CHANGES = {"add": add_name, "tie": tie_names, "drop": drop_name}

ANSWERS = {
    "bands": answer_bands,
    "steps": answer_steps,
    "chains": answer_chains,
    "crowds": answer_crowds,
    "judge": answer_judge,
    "show": answer_show,
    "stairs": answer_stairs,
}

MANY_BEHIND = {"add": 1, "tie": 2, "drop": 1, "bands": 0, "steps": 0, "chains": 1, "crowds": 1, "show": 0, "stairs": 0}


def words_of(row):
    """The first word of a row, and the words behind it, as many as it takes."""
    if row.startswith("judge "):
        # A pair has blanks of its own, so all that follows counts as one word.
        return ["judge", row[len("judge "):]]
    words = row.split(" ")
    if MANY_BEHIND.get(words[0]) != len(words) - 1 or "" in words:
        raise NoRow("a row is of no known kind")
    return words


class Desk:
    """Keeps a book in turn, at first of no things."""

    def __init__(self):
        self.book = ([], [])

    def say(self, row):
        """The answer to a row; the book is another one only where nothing is refused."""
        words = words_of(row)
        if words[0] in CHANGES:
            change = CHANGES[words[0]]
            self.book = change(self.book, words[1:])
            return "ok"
        answer = ANSWERS[words[0]]
        return answer(self.book, words[1:])
