"""Points 32, 33 and 34, and 2 for them: the desk."""

import itertools
import random
import unittest

from bandorder.bands import bands, steps
from bandorder.desk import Desk
from bandorder.errors import Full, NoName, NoPair, NoRow, Ring
from bandorder.growth import stairs
from bandorder.texts import read_book, show_book

from tests.counting import counted_bands, counted_steps
from tests.naming import NAMES, books_to_try

QUESTIONS = ["bands", "steps", "show", "stairs", "chains 0", "crowds 0"]


def told_desk(rows):
    desk = Desk()
    for row in rows:
        desk.say(row)
    return desk


def rows_for(book):
    """Rows that tell a desk all of a book."""
    names, order = book
    ties = [f"tie {names[low]} {names[high]}" for high, below in enumerate(order) for low in below]
    return [f"add {name}" for name in names] + ties


def desk_of(text):
    """A desk that keeps the book of a text."""
    return told_desk(rows_for(read_book(text)))


def kept(desk):
    """What a desk answers to every question that it can be asked."""
    told = [desk.say(row) for row in QUESTIONS]
    told += [desk.say(f"chains {many}") for many in range(len(told[0].split()) + 1)]
    return told + [desk.say(f"crowds {many}") for many in range(len(told[1].split()) + 1)]


def numbers_in(answer):
    return [int(word) for word in answer.split(" ")] if answer else []


def sides_of(answer):
    """The two sides of a pair that is written, as lists of lists of names."""
    if answer == "|":
        return [], []
    if answer.startswith("| "):
        return [], [word.split(",") for word in answer[2:].split(" ")]
    if answer.endswith(" |"):
        return [word.split(",") for word in answer[:-2].split(" ")], []
    chains, crowds = answer.split(" | ")
    return [word.split(",") for word in chains.split(" ")], [word.split(",") for word in crowds.split(" ")]


class Model:
    """Keeps names and ties as a set of tuples (low, high), with all that follows."""

    def __init__(self):
        self.names = set()
        self.ties = set()

    def add(self, name):
        self.names.add(name)

    def tie(self, low, high):
        lows = {low} | {one for one, other in self.ties if other == low}
        highs = {high} | {other for one, other in self.ties if one == high}
        self.ties |= set(itertools.product(lows, highs))

    def drop(self, name):
        self.names.discard(name)
        self.ties = {(low, high) for low, high in self.ties if name not in (low, high)}

    def would_ring(self, low, high):
        return low == high or (high, low) in self.ties

    def book(self):
        """The book in turn, by the words."""
        names = []
        while len(names) < len(self.names):
            names.append(min(
                name for name in self.names
                if name not in names and all(low in names for low, high in self.ties if high == name)
            ))
        order = [[at for at, low in enumerate(names) if (low, high) in self.ties] for high in names]
        return names, order


class DeskTest(unittest.TestCase):
    def assert_refused(self, desk, error, row):
        before = kept(desk)
        with self.assertRaises(error) as caught:
            desk.say(row)
        self.assertIs(type(caught.exception), error, repr(row))
        self.assertEqual(kept(desk), before, repr(row))

    def assert_all_refused(self, desk, error, rows):
        for row in rows:
            self.assert_refused(desk, error, row)


class Changes(DeskTest):
    def test_at_first_there_is_nothing(self):
        desk = Desk()
        self.assertEqual([desk.say(row) for row in QUESTIONS], ["", "", "", "", "|", "|"])
        self.assertEqual(desk.say("judge |"), "yes")

    def test_add(self):
        desk = Desk()
        self.assertEqual(desk.say("add reed"), "ok")
        self.assertEqual(desk.say("show"), "reed")
        self.assertEqual(desk.say("add oak"), "ok")
        self.assertEqual(desk.say("show"), "oak\nreed")
        self.assertEqual(desk.say("add abcdefgh"), "ok")
        self.assertEqual(desk.say("show"), "abcdefgh\noak\nreed")

    def test_tie(self):
        desk = told_desk(["add a", "add b", "add c", "add d"])
        self.assertEqual(desk.say("tie c b"), "ok")
        self.assertEqual(desk.say("show"), "a\nd\nc < b")
        self.assertEqual(desk.say("tie b a"), "ok")
        self.assertEqual(desk.say("show"), "d\nc < b\nb < a")
        self.assertEqual(desk.say("tie c a"), "ok")
        self.assertEqual(desk.say("show"), "d\nc < b\nb < a")
        self.assertEqual(desk.say("tie d c"), "ok")
        self.assertEqual(desk.say("show"), "d < c\nc < b\nb < a")
        self.assertEqual(desk.say("bands"), "4")

    def test_drop(self):
        desk = desk_of("a < b < c\nd < b")
        self.assertEqual(desk.say("drop b"), "ok")
        self.assertEqual(desk.say("show"), "a < c\nd < c")
        self.assertEqual(desk.say("drop c"), "ok")
        self.assertEqual(desk.say("show"), "a\nd")
        self.assertEqual(desk.say("drop a"), "ok")
        self.assertEqual(desk.say("drop d"), "ok")
        self.assertEqual(desk.say("show"), "")
        self.assertEqual(desk.say("add b"), "ok")
        self.assertEqual(desk.say("show"), "b")

    def test_what_is_dropped_comes_back_untied(self):
        desk = desk_of("a < b < c")
        desk.say("drop b")
        desk.say("add b")
        self.assertEqual(desk.say("show"), "b\na < c")

    def test_words_of_rows_may_be_names(self):
        desk = told_desk(["add add", "add tie", "add judge", "tie judge add", "drop tie"])
        self.assertEqual(desk.say("show"), "judge < add")
        self.assertEqual(desk.say("judge judge,add | judge add"), "yes")

    def test_whatever_is_told_the_book_is_in_turn(self):
        for seed in range(40):
            chance = random.Random(seed)
            desk, model = Desk(), Model()
            for turn in range(40):
                self.one_change(chance, desk, model)
                self.assertEqual(desk.say("show"), show_book(model.book()))
                self.assertEqual(read_book(desk.say("show")), model.book())

    def one_change(self, chance, desk, model):
        word = chance.choice(["add", "add", "tie", "tie", "tie", "drop"])
        low, high = chance.choice(NAMES[:9]), chance.choice(NAMES[:9])
        if word == "tie":
            row, is_known = f"tie {low} {high}", {low, high} <= model.names
        else:
            row, is_known = f"{word} {low}", (low in model.names) == (word == "drop")
        if not is_known:
            self.assertRaises(NoName, desk.say, row)
        elif word == "tie" and model.would_ring(low, high):
            self.assertRaises(Ring, desk.say, row)
        else:
            self.assertEqual(desk.say(row), "ok")
            change = {"add": model.add, "tie": model.tie, "drop": model.drop}[word]
            change(*row.split(" ")[1:])


class Answers(DeskTest):
    def test_ordinary(self):
        desk = desk_of("a < b < d\na < c < d\ne")
        self.assertEqual(desk.say("bands"), "3 1 1")
        self.assertEqual(desk.say("steps"), "3 1 1")
        self.assertEqual(desk.say("show"), "e\na < b\na < c\nb < d\nc < d")
        self.assertEqual(desk.say("stairs"), "a b d\nc\ne")

    def test_where_there_is_just_one_answer(self):
        desk = desk_of("b < a")
        self.assertEqual(desk.say("chains 0"), "| b a")
        self.assertEqual(desk.say("crowds 0"), "b,a |")
        self.assertEqual(told_desk(["add x"]).say("chains 1"), "x | x")
        self.assertEqual(told_desk(["add x", "add y"]).say("crowds 0"), "x y |")
        self.assertEqual(told_desk(["add x", "add y"]).say("crowds 1"), "x y | x,y")

    def test_stairs_of_the_kept_order(self):
        desk = told_desk(["add c", "add b", "add a", "tie c a"])
        self.assertEqual(desk.say("stairs"), "b a\nc")
        self.assertEqual(desk.say("show"), "b\nc < a")

    def test_numbers_and_stairs_of_many_books(self):
        for book in books_to_try()[::3]:
            desk = told_desk(rows_for(book))
            names, order = read_book(show_book(book))
            self.assertEqual(desk.say("bands"), " ".join(str(number) for number in bands(order)))
            self.assertEqual(desk.say("steps"), " ".join(str(number) for number in steps(order)))
            self.assertEqual(desk.say("show"), show_book((names, order)))
            rows = [" ".join(names[thing] for thing in row) for row in stairs(order)]
            self.assertEqual(desk.say("stairs"), "\n".join(rows))

    def test_numbers_against_counting(self):
        for book in books_to_try()[:90:4]:
            desk = told_desk(rows_for(book))
            self.assertEqual(numbers_in(desk.say("bands")), counted_bands(book[1]))
            self.assertEqual(numbers_in(desk.say("steps")), counted_steps(book[1]))

    def test_two_figures(self):
        desk = told_desk([f"add {name}" for name in NAMES])
        self.assertEqual(desk.say("steps"), "14")
        self.assertEqual(desk.say("bands"), " ".join(["1"] * 14))
        self.assertEqual(desk.say("chains 14"), " ".join(sorted(NAMES)) + " | " + ",".join(sorted(NAMES)))
        line = desk_of(" < ".join(NAMES))
        self.assertEqual(line.say("bands"), "14")
        self.assertEqual(line.say("crowds 14"), ",".join(NAMES) + " | " + " ".join(NAMES))


class Pairs(DeskTest):
    def assert_pair(self, book, answer):
        """A pair by the words of 12, its names by their places."""
        names, order = book
        chains, crowds = [[[names.index(name) for name in row] for row in side] for side in sides_of(answer)]
        for row in chains + crowds:
            self.assertEqual(row, sorted(set(row)))
        for side, is_tied in [(chains, True), (crowds, False)]:
            self.assertEqual(len(set(sum(side, []))), len(sum(side, [])))
            for row in side:
                self.assertTrue(all((low in order[high]) is is_tied for low, high in itertools.combinations(row, 2)))
        self.assertEqual(set(sum(chains + crowds, [])), set(range(len(names))))
        self.assertTrue(all(set(chain) & set(crowd) for chain, crowd in itertools.product(chains, crowds)))
        return len(chains), len(crowds)

    def test_chains_and_crowds(self):
        for book in books_to_try()[::3]:
            desk = told_desk(rows_for(book))
            book = read_book(show_book(book))
            rows, columns = bands(book[1]), steps(book[1])
            for many in range(len(rows) + 1):
                answer = desk.say(f"chains {many}")
                self.assertEqual(self.assert_pair(book, answer), (many, (rows[:1] + rows + [0])[many]))
                self.assertEqual(desk.say(f"judge {answer}"), "yes")
            for many in range(len(columns) + 1):
                answer = desk.say(f"crowds {many}")
                self.assertEqual(self.assert_pair(book, answer), ((columns[:1] + columns + [0])[many], many))
                self.assertEqual(desk.say(f"judge {answer}"), "yes")

    def test_judge(self):
        desk = desk_of("a < b < d\na < c < d")
        for pair in ["a,b,d | a b,c d", "a,c,d | d b,c a", "a,b,d c |", "| a b,c d", "a,b,d c | b,c", "c a,b,d | b,c"]:
            self.assertEqual(desk.say("judge " + pair), "yes", pair)
        for pair in ["|", "a,b,d |", "| a b c", "a,b,c,d | a", "a,b,d | a b c d", "a,b a,c d |", "a,b,d a,c | a b,c d",
                     "a,d | a b,c d", "b,c | a b d", "| b,c,a d", "a,b,d c | a"]:
            self.assertEqual(desk.say("judge " + pair), "no", pair)

    def test_judge_with_names_in_whatever_order(self):
        desk = desk_of("a < b < d\na < c < d")
        for pair in ["d,b,a | a c,b d", "b,a,d,a,b | a,a c,b,c d,d", "| d,d c,b a", "a,a,a d,c b |"]:
            self.assertEqual(desk.say("judge " + pair), "yes", pair)
        for pair in ["d,d,d | a c,b d", "b,a,d,a,b | a,d c,b", "| d d c,b a", "a a,b,d c |"]:
            self.assertEqual(desk.say("judge " + pair), "no", pair)

    def test_judge_of_shuffled_pairs(self):
        for seed, book in enumerate(books_to_try()[::5]):
            desk = told_desk(rows_for(book))
            chance = random.Random(seed)
            for row in ["chains 0", "crowds 0"] + (["chains 1", "crowds 1"] if book[0] else []):
                sides = sides_of(desk.say(row))
                for side in sides:
                    chance.shuffle(side)
                    for names in side:
                        names.append(chance.choice(names))
                        chance.shuffle(names)
                words = [[",".join(names) for names in side] for side in sides]
                self.assertEqual(desk.say("judge " + " ".join(words[0] + ["|"] + words[1])), "yes")


class Refusals(DeskTest):
    def test_no_row(self):
        desk = desk_of("a < b\nc")
        self.assert_all_refused(desk, NoRow, [
            "", " ", "  ", "\n", "a", "ad", "addd", "Add x", "ADD x", "put x", "order", "help", "band", "bands.", "ok",
            "add", "tie", "tie a", "drop", "chains", "crowds", "judge", "add x y", "add x,y z", "tie a b c", "drop a b",
            "bands 1", "bands a", "steps 1", "show a", "show 1", "stairs a", "chains 1 1", "crowds 1 a", "a < b",
            "bands\n", "\nbands", "show\nshow", "add\nx", "judge\n|", "add\n",
        ])

    def test_no_row_for_blanks(self):
        desk = desk_of("a < b\nc")
        rows = ["add x", "tie a c", "drop a", "bands", "steps", "chains 1", "crowds 1", "show", "stairs", "judge |"]
        for row in rows:
            self.assert_all_refused(desk, NoRow, [" " + row, row + " ", "  " + row, row + "  ", " " + row + " "])
            if " " in row:
                self.assert_all_refused(desk, NoRow, [row.replace(" ", "  "), row.replace(" ", "   ")])
        self.assert_all_refused(desk, NoRow, ["add ", "drop ", "tie a ", "tie  b", "chains ", "crowds ", "judge "])

    def test_no_row_for_numbers(self):
        desk = desk_of("a < b\nc")
        for word in ["00", "01", "001", "-0", "-1", "+1", "+0", "1.0", "1,0", "1_0", "0x1", "1e0", "one", "a", "I", "1a",
                     "a1", "--1", "1-", "1\n", "\n1", "0\n", "00000000000000", "-" + "9" * 60, "0" + "9" * 60]:
            self.assert_all_refused(desk, NoRow, ["chains " + word, "crowds " + word])

    def test_no_row_for_pairs(self):
        desk = desk_of("a < b\nc")
        for pair in ["", " ", "a,b", "a,b c", "a b c", "||", "| |", "a,b | c | a", "a,b || c", "a,b |c", "a,b| c", "a|b",
                     " |", "| ", " | ", "a,b  | c", "a,b |  c", "a,b  c | a", " a,b | c", "a,b | c ", "a, b | c",
                     "a ,b | c", ",a | c", "a, | c", "a,,b | c", ", | c", "a,b | ,", "a,b | c,", "A | b", "a,B | c",
                     "a | b1", "1 | a", "a,b | 0", "abcdefghi | a", "a;b | c", "a < b | c", "a,b | c\n", "\n|", "|\n",
                     "a\n| b", "a,b\nc | a", "a-b |", "a,| | b", "|,a"]:
            self.assert_refused(desk, NoRow, "judge " + pair)

    def test_no_name_for_what_is_none(self):
        desk = desk_of("a < b\nc")
        for word in ["A", "aB", "a1", "1", "abcdefghi", "-", "a,b", "<", "|", "a-b", "a_b", "a.", "~", "a\nb", "x\n"]:
            self.assert_all_refused(desk, NoName, [
                "add " + word, "drop " + word, "tie a " + word, f"tie {word} a", f"tie {word} {word}",
            ])

    def test_no_name_for_what_is_not_in_the_book(self):
        desk = desk_of("a < b\nc")
        self.assert_all_refused(desk, NoName, [
            "drop d", "drop aa", "tie a d", "tie d a", "tie d d", "tie d e", "judge d |", "judge | d", "judge a,b c,d |",
            "judge a,b | a b,c d", "judge a,b,d,a | a", "judge add | a", "judge abcdefgh |",
        ])
        self.assert_all_refused(Desk(), NoName, ["drop a", "tie a b", "tie a a", "judge a |", "judge | a"])

    def test_no_name_for_add_of_one_that_is_in_the_book(self):
        self.assert_all_refused(desk_of("a < b\nc"), NoName, ["add a", "add b", "add c"])

    def test_full(self):
        desk = told_desk([f"add {name}" for name in NAMES])
        self.assert_all_refused(desk, Full, ["add x", "add one", "add abcdefgh"])
        desk.say("drop oak")
        self.assertEqual(desk.say("add one"), "ok")
        self.assert_refused(desk, Full, "add oak")

    def test_ring(self):
        desk = desk_of("a < b < c\nd")
        self.assert_all_refused(desk, Ring, ["tie a a", "tie d d", "tie b a", "tie c b", "tie c a"])
        self.assertEqual(desk.say("tie c d"), "ok")
        self.assert_all_refused(desk, Ring, ["tie d a", "tie d d", "tie d c", "tie b a"])

    def test_no_pair(self):
        desk = desk_of("a < b < c\nd")
        numbers = ["10", "14", "15", "100", "101", "999", "1000", "2000000", "1" + "0" * 59, "9" * 60, "1" + "0" * 2900]
        self.assert_all_refused(desk, NoPair, ["chains 3", "crowds 4", "chains 4", "crowds 5"])
        self.assert_all_refused(desk, NoPair, ["chains " + word for word in numbers])
        self.assert_all_refused(desk, NoPair, ["crowds " + word for word in numbers])
        self.assert_all_refused(Desk(), NoPair, ["chains 1", "crowds 1", "chains 2"])

    def test_which_refusal_comes_first(self):
        desk = told_desk([f"add {name}" for name in NAMES])
        self.assert_all_refused(desk, NoRow, ["add x ", "add  x", "add x y", "tie a a a", "chains 099", "judge x"])
        self.assert_all_refused(desk, NoRow, ["judge x | Y", "judge x,,y |", "add A ", "tie A  A", "drop X Y"])
        self.assert_all_refused(desk, NoName, ["add oak", "add X", "tie x x", "tie X X", "tie oak x", "add abcdefghi"])


class PointTwo(DeskTest):
    def test_two_desks_know_nothing_of_one_another(self):
        one, other = Desk(), Desk()
        one.say("add a")
        self.assertEqual(other.say("show"), "")
        other.say("add b")
        other.say("add a")
        other.say("tie b a")
        self.assertEqual(one.say("show"), "a")
        one.say("drop a")
        self.assertEqual(other.say("show"), "b < a")
        self.assertEqual(Desk().say("show"), "")

    def test_another_desk_stays_where_one_refuses(self):
        one, other = desk_of("a < b"), desk_of("b < a")
        before = kept(other)
        self.assert_all_refused(one, Ring, ["tie b a"])
        self.assert_all_refused(one, NoName, ["add a", "drop c"])
        self.assertEqual(kept(other), before)

    def test_questions_change_nothing(self):
        for book in books_to_try()[::20]:
            desk = told_desk(rows_for(book))
            before = kept(desk)
            self.assertEqual(kept(desk), before)
            desk.say("judge |")
            self.assertEqual(kept(desk), before)

    def test_answers_are_texts(self):
        desk = desk_of("a < b < c\nd")
        for row in QUESTIONS + ["chains 1", "crowds 1", "judge |", "add x", "tie a x", "drop x"]:
            self.assertIs(type(desk.say(row)), str)

    def test_say_is_defined_in_the_class_itself(self):
        self.assertIn("say", vars(Desk))
