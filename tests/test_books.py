"""Point 30, and 2 for it: books in turn."""

import unittest

from bandorder.books import in_turn, is_name

from tests.helpers import apart, check_point_2, line
from tests.naming import NAMES, books_to_try, check_book, is_in_turn, mixed_names, named_belows


class InTurn(unittest.TestCase):
    def test_ordinary(self):
        self.assertEqual(in_turn(([], [])), ([], []))
        self.assertEqual(in_turn((["x"], [[]])), (["x"], [[]]))
        self.assertEqual(in_turn((["b", "a"], [[], []])), (["a", "b"], [[], []]))
        self.assertEqual(in_turn((["b", "a"], [[], [0]])), (["b", "a"], [[], [0]]))
        self.assertEqual(in_turn((["c", "b", "a"], [[], [], [0]])), (["b", "c", "a"], [[], [], [1]]))
        self.assertEqual(in_turn((["b", "d", "a", "c"], [[], [], [0], []])), (["b", "a", "c", "d"], [[], [0], [], []]))

    def test_as_python_compares_texts(self):
        self.assertEqual(in_turn((["b", "ab", "aaaaaaaa", "a"], apart(4)))[0], ["a", "aaaaaaaa", "ab", "b"])
        self.assertEqual(in_turn((NAMES[::-1], apart(14))), (sorted(NAMES), apart(14)))

    def test_of_one_chain(self):
        for many in range(15):
            book = (mixed_names(many, many), line(many))
            self.assertEqual(in_turn(book), book)

    def test_in_turn_by_the_words(self):
        for book in books_to_try():
            told = in_turn(book)
            check_book(self, told)
            self.assertTrue(is_in_turn(told), (book, told))

    def test_the_same_names_above_the_same_ones(self):
        for book in books_to_try():
            self.assertEqual(named_belows(in_turn(book)), named_belows(book))

    def test_a_book_in_turn_comes_back_as_it_is(self):
        for book in books_to_try():
            told = in_turn(book)
            self.assertEqual(in_turn(told), told)
            if is_in_turn(book):
                self.assertEqual(told, book)

    def test_point_2(self):
        for book in books_to_try()[::9]:
            check_point_2(self, in_turn, book)


class IsName(unittest.TestCase):
    def test_names(self):
        for name in NAMES + ["abcdefgh", "qrstuvwx", "yz"]:
            self.assertIs(is_name(name), True, name)

    def test_others(self):
        for text in ["", " ", "abcdefghi", "A", "aB", "a1", "1", "a ", " a", "a-b", "a,b", "<", "|", "a\n", "\n", "a b"]:
            self.assertIs(is_name(text), False, text)
