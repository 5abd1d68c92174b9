"""Points 31 and 33, and 2 for them: books and pairs as texts."""

import itertools
import random
import unittest

from bandorder.books import in_turn
from bandorder.errors import Full, NoRow, NoText, Ring
from bandorder.parts import covers
from bandorder.texts import read_book, read_pair, show_book, show_pair

from tests.helpers import apart, check_point_2, check_refusal, line
from tests.naming import NAMES, books_to_try, check_book, is_in_turn, mixed_names, named_belows, small_books

WRONG_ROWS = [
    " ", "  ", "<", " < ", " <", "< ", "a <", "a < ", " < a", "< a", "a  < b", "a <  b", " a < b", "a < b ", " a",
    "a ", "a<b", "a< b", "a <b", "a b", "a > b", "a = b", "a <= b", "a << b", "a < < b", "a < b <", "a < b < ",
    "a , b", "a,b", "a | b", "A", "a < B", "Ab < c", "aB < c", "a1 < b", "7", "a < 7", "a.b", "a-b", "a_b", "~",
    "abcdefghi", "a < abcdefghi", "abcdefghi < a", "a < b < c d", "a < b; c < d", "'a'",
]


def text_of(rows):
    return "\n".join(rows)


def shuffled(rows, seed):
    told = list(rows)
    random.Random(seed).shuffle(told)
    return told


def rows_by_the_words(book):
    """The rows of a book: names in no cover by their places, then the covers, in their order."""
    names, order = book
    tied = []
    for low, high in itertools.product(range(len(names)), repeat=2):
        if low in order[high] and not any(low in order[middle] for middle in order[high]):
            tied.append((low, high))
    alone = [name for at, name in enumerate(names) if not any(at in cover for cover in tied)]
    return alone + [f"{names[low]} < {names[high]}" for low, high in tied]


def all_ties(book):
    """A row for each two names of which one stands below the other."""
    names, order = book
    return [f"{names[low]} < {names[high]}" for high, below in enumerate(order) for low in below]


class ShowBook(unittest.TestCase):
    def test_ordinary(self):
        self.assertEqual(show_book(([], [])), "")
        self.assertEqual(show_book((["x"], [[]])), "x")
        self.assertEqual(show_book((["y", "x"], [[], []])), "y\nx")
        self.assertEqual(show_book((["y", "x"], [[], [0]])), "y < x")
        self.assertEqual(show_book((["c", "b", "a"], [[], [0], [0, 1]])), "c < b\nb < a")
        self.assertEqual(show_book((["d", "c", "b", "a"], [[], [], [0], []])), "c\na\nd < b")
        self.assertEqual(
            show_book((["a", "b", "c", "d"], [[], [0], [0], [0, 1, 2]])), "a < b\na < c\nb < d\nc < d")

    def test_by_the_words(self):
        for book in books_to_try():
            self.assertEqual(show_book(book), text_of(rows_by_the_words(book)))

    def test_as_many_rows_as_covers_and_names_in_none(self):
        for book in books_to_try():
            tied = covers(book[1])
            alone = len(book[0]) - len({thing for cover in tied for thing in cover})
            rows = show_book(book).split("\n") if book[0] else []
            self.assertEqual(len(rows), alone + len(tied))

    def test_point_2(self):
        for book in books_to_try()[::9]:
            check_point_2(self, show_book, book)


class ReadBook(unittest.TestCase):
    def test_ordinary(self):
        self.assertEqual(read_book(""), ([], []))
        self.assertEqual(read_book("x"), (["x"], [[]]))
        self.assertEqual(read_book("b\na"), (["a", "b"], [[], []]))
        self.assertEqual(read_book("b < a"), (["b", "a"], [[], [0]]))
        self.assertEqual(read_book("c < b < a"), (["c", "b", "a"], [[], [0], [0, 1]]))
        self.assertEqual(read_book("b < a\nc < b"), (["c", "b", "a"], [[], [0], [0, 1]]))
        self.assertEqual(read_book("d < b\na < b < c"), (["a", "d", "b", "c"], [[], [], [0, 1], [0, 1, 2]]))

    def test_what_was_shown_is_read_back_in_turn(self):
        for book in books_to_try():
            told = read_book(show_book(book))
            check_book(self, told)
            self.assertEqual(told, in_turn(book))
            self.assertEqual(named_belows(told), named_belows(book))
            self.assertTrue(is_in_turn(told))
            self.assertEqual(read_book(show_book(told)), told)

    def test_rows_in_another_order(self):
        for seed, book in enumerate(books_to_try()):
            rows = rows_by_the_words(book)
            if rows:
                self.assertEqual(read_book(text_of(rows[::-1])), in_turn(book))
                self.assertEqual(read_book(text_of(shuffled(rows, seed))), in_turn(book))

    def test_rows_told_twice(self):
        for book in books_to_try():
            rows = rows_by_the_words(book)
            if rows:
                self.assertEqual(read_book(text_of(rows + rows)), in_turn(book))
                self.assertEqual(read_book(text_of(book[0] + rows + book[0])), in_turn(book))

    def test_rows_with_what_follows(self):
        for seed, book in enumerate(books_to_try()):
            rows = rows_by_the_words(book) + all_ties(book)
            if rows and len(text_of(rows)) <= 3000:
                self.assertEqual(read_book(text_of(shuffled(rows, seed))), in_turn(book))

    def test_rows_joined_to_longer_ones(self):
        self.assertEqual(read_book("a < b < d\na < c < d"), read_book("a < b\na < c\nb < d\nc < d"))
        self.assertEqual(read_book("a < b < c < d\na < d\nb < d"), read_book("c < d\nb < c\na < b"))
        for many in range(1, 15):
            names = mixed_names(many, many)
            self.assertEqual(read_book(" < ".join(names)), (names, line(many)))

    def test_fourteen_names(self):
        self.assertEqual(read_book(text_of(NAMES[::-1])), (sorted(NAMES), apart(14)))
        self.assertEqual(len(read_book(text_of(NAMES + NAMES))[0]), 14)

    def test_no_text(self):
        for row in WRONG_ROWS:
            for text in [row, "a\n" + row, row + "\na", "b < c\n" + row + "\nc < d"]:
                check_refusal(self, NoText, read_book, text)

    def test_no_text_for_a_row_without_signs(self):
        for text in ["\n", "\n\n", "a\n", "\na", "a\n\nb", "a < b\n", "\na < b", "a < b\n\nc", "a <\nb", "a\n < b"]:
            check_refusal(self, NoText, read_book, text)

    def test_full(self):
        many = NAMES + ["one"]
        for text in [text_of(many), " < ".join(many), text_of(many + many), text_of(NAMES + ["one < two"])]:
            check_refusal(self, Full, read_book, text)

    def test_ring(self):
        for text in ["a < a", "a < b\nb < a", "a < b < a", "a < b\nb < c\nc < a", "a < b < c < b", "x\na < b\nc < c",
                     " < ".join(NAMES + NAMES[:1]), " < ".join(NAMES[:13] + NAMES[3:4])]:
            check_refusal(self, Ring, read_book, text)

    def test_which_refusal_comes_first(self):
        many = text_of(NAMES + ["one"])
        check_refusal(self, NoText, read_book, many + "\nA")
        check_refusal(self, NoText, read_book, many + "\na < a\n")
        check_refusal(self, NoText, read_book, "a < a\n<")
        check_refusal(self, Full, read_book, many + "\na < a")
        check_refusal(self, Full, read_book, "a < b < a\n" + many)

    def test_point_2(self):
        for text in ["", "x", "b\na", "c < b < a\nd < a", text_of(NAMES)]:
            check_point_2(self, read_book, text)


class ShowPair(unittest.TestCase):
    def test_ordinary(self):
        names = ["a", "b", "c"]
        self.assertEqual(show_pair(names, ([[0, 1], [2]], [[0, 2]])), "a,b c | a,c")
        self.assertEqual(show_pair(names, ([], [[0], [1]])), "| a b")
        self.assertEqual(show_pair(names, ([[0], [1]], [])), "a b |")
        self.assertEqual(show_pair(names, ([], [])), "|")
        self.assertEqual(show_pair([], ([], [])), "|")

    def test_names_by_their_places(self):
        names = ["reed", "oak", "aa"]
        self.assertEqual(show_pair(names, ([[0, 1, 2]], [[2], [0], [1]])), "reed,oak,aa | aa reed oak")
        self.assertEqual(show_pair(names, ([[1, 2], [0, 2]], [[0, 1, 2]])), "oak,aa reed,aa | reed,oak,aa")

    def test_read_back(self):
        for names, order in small_books():
            sides = [[], [[at] for at in range(len(names))], [list(range(len(names)))] if names else []]
            for pair in itertools.product(sides, repeat=2):
                wanted = tuple([[names[at] for at in row] for row in rows] for rows in pair)
                self.assertEqual(read_pair(show_pair(names, pair)), wanted)

    def test_point_2(self):
        names = ["reed", "oak", "aa"]
        for pair in [([], []), ([[0, 1], [2]], []), ([], [[0]]), ([[0, 1], [2]], [[0, 2]])]:
            check_point_2(self, show_pair, names, pair)


class ReadPair(unittest.TestCase):
    def test_as_it_stands(self):
        self.assertEqual(read_pair("b,a,b c | a,c"), ([["b", "a", "b"], ["c"]], [["a", "c"]]))
        self.assertEqual(read_pair("|"), ([], []))

    def test_point_2(self):
        for text in ["|", "b,a,b c | a,c", "| a"]:
            check_point_2(self, read_pair, text)

    def test_no_row(self):
        for text in ["", " ", "a", "a b", " |", "| ", "a|b", "a |b", "a| b", "||", "| |", "a | b | c", "a,|", "a | b,"]:
            check_refusal(self, NoRow, read_pair, text)
