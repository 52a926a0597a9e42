import random
import sys
import unittest

from pegrise.book import Book
from pegrise.errors import Against, Full, NoText
from pegrise.texts import read, shown
from tests.walking import GREATEST, book_of, refused, state

NINES = "9" * 60
RISES = {
    0: "0", 1: "1", -1: "-1", 9: "9", 10: "10", -10: "-10", 100: "100", -305: "-305", GREATEST: NINES,
    0 - GREATEST: "-" + NINES, 10 ** 59: "1" + "0" * 59, 0 - 10 ** 59: "-1" + "0" * 59,
}
WRONG_PEGS = [
    "", "abcdefghi", "A", "aB", "Ab", "a1", "1", "-", "a-b", "a_b", "a.", "\u00e9", "\u0430", "\uff41", "\u00df",
    "\u0131", "a\u0301", "a\0", "a;", ";a", ";",
]
WRONG_RISES = [
    "", "-", "--1", "-0", "00", "01", "-01", "-00", "000", "007", "+1", "+0", "-+1", "+-1", "1_0", "1_000", "_1", "1_",
    "1-", "1-1", "1.0", "1.", ".5", "1e3", "0x1", "0b1", "a", "1a", "a1", "1,", "1,000", "None", "True", "1;", ";1",
    "/", ":", "1/", "1:", "1" + "0" * 60, "-1" + "0" * 60, "9" * 61, "-" + "9" * 61, "0" * 60, "0" * 61, "0" + NINES,
    "-0" + NINES, "9" * 5000, "\u0661", "\u0967", "\uff11", "\u00b9", "\u00b2", "\u2070", "\u2081", "\u2460", "\u00bd",
    "1\u0662", "-\u0663", "\u22121", "\u20131", "\U0001d7ce", "1\u00b2", "\u4e00", "1\0", "\ufeff1",
]
BETWEEN_WORDS = [
    "  ", "\t", "\n", "\r", "\r\n", "\v", "\f", "\u00a0", "\u2003", "\u3000", "\u2028", "\x1c", "\x85", "\u200b",
    "", ",", "_", "-", ";", " ; ", "; ", " \n", "\n ", ", ",
]
AROUND = [
    " ", "  ", "\t", "\n", "\r", "\r\n", "\v", "\f", "\0", "\u00a0", "\u2028", "\x85", "\ufeff", ";", "; ", " ;", ";; ",
    ".", ",", "; ; ",
]
BETWEEN_ROWS = [
    ";", " ; ", ";  ", ";;", ";; ", "; ; ", " ;", " ", "  ", "", ",", ", ", ";\t", ";\n", "\n", "; \n", "\n; ",
    ";\u00a0", "\uff1b ", ": ", "\u037e ", ";\r\n", "\t; ", ";   ",
]


def sightings_of(book):
    return [row[1:] for row in book.kept()]


class Shown(unittest.TestCase):
    def test_of_none(self):
        self.assertEqual(shown(Book()), "")
        self.assertEqual(shown(Book(0)), "")
        book = book_of([("a", "b", 1)])
        book.drop(1)
        self.assertEqual(shown(book), "")

    def test_of_one(self):
        for rise, written in RISES.items():
            with self.subTest(rise=rise):
                self.assertEqual(shown(book_of([("oak", "elm", rise)])), "oak elm " + written)

    def test_of_several(self):
        book = book_of([("b", "a", 0), ("abcdefgh", "b", -12), ("a", "a", 0), ("x", "y", 7)])
        self.assertEqual(shown(book), "b a 0; abcdefgh b -12; a a 0; x y 7")

    def test_rows_stand_as_they_were_taken(self):
        self.assertEqual(shown(book_of([("z", "a", -3), ("a", "z", 3)])), "z a -3; a z 3")

    def test_behind_drops(self):
        book = book_of([("a", "b", 1), ("c", "d", 2), ("e", "f", 3)])
        book.drop(2)
        self.assertEqual(shown(book), "a b 1; e f 3")
        book.take("c", "d", -2)
        self.assertEqual(shown(book), "a b 1; e f 3; c d -2")
        book.drop(1)
        self.assertEqual(shown(book), "e f 3; c d -2")

    def test_in_the_order_of_numbers_beyond_nine(self):
        book = book_of([("a", "b", 1)] * 9 + [("c", "d", 2), ("e", "f", 3)])
        self.assertEqual(shown(book), "a b 1; " * 9 + "c d 2; e f 3")

    def test_it_changes_nothing(self):
        book = book_of([("a", "b", 1), ("b", "c", 2)])
        before = state(book)
        self.assertEqual(shown(book), shown(book))
        self.assertEqual(state(book), before)
        self.assertEqual(book.take("c", "d", 3), 3)


class Read(unittest.TestCase):
    def test_the_text_without_signs(self):
        for book in (read(""), read("", 0), read("", 5)):
            self.assertIs(type(book), Book)
            self.assertEqual(book.kept(), [])
        self.assertEqual(read("").take("a", "b", 1), 1)

    def test_one_row(self):
        for rise, written in RISES.items():
            with self.subTest(rise=rise):
                book = read("oak elm " + written)
                self.assertEqual(book.kept(), [(1, "oak", "elm", rise)])
                self.assertIs(type(book.kept()[0][3]), int)

    def test_several_rows(self):
        book = read("b a 0; abcdefgh b -12; a a 0; x y 7")
        kept = [(1, "b", "a", 0), (2, "abcdefgh", "b", -12), (3, "a", "a", 0), (4, "x", "y", 7)]
        self.assertEqual(book.kept(), kept)
        self.assertEqual(book.take("q", "r", 1), 5)
        self.assertEqual(book.rise("abcdefgh", "a"), -12)

    def test_what_was_shown(self):
        book = book_of([("a", "b", rise) for rise in (3, 3)] + [("c", "d", GREATEST), ("e", "d", 0), ("f", "f", 0)])
        book.drop(1)
        book.drop(4)
        again = read(shown(book))
        self.assertEqual(again.kept(), [(1, "a", "b", 3), (2, "c", "d", GREATEST), (3, "f", "f", 0)])
        self.assertEqual(shown(again), shown(book))
        self.assertEqual(again.take("q", "r", 1), 4)
        self.assertEqual(book.take("q", "r", 1), 6)

    def test_what_was_shown_drawn_by_lot(self):
        source = random.Random(11)
        for turn in range(60):
            stand = {peg: source.randint(-10 ** 59, 10 ** 59) for peg in ("a", "ab", "abc", "zzzzzzzz", "q", "oak")}
            book = Book()
            for each in range(source.randint(0, 12)):
                one, other = source.choice(list(stand)), source.choice(list(stand))
                book.take(one, other, stand[other] - stand[one])
            for row in book.kept():
                if source.random() < 0.3:
                    book.drop(row[0])
            text = shown(book)
            again = read(text)
            self.assertEqual(sightings_of(again), sightings_of(book))
            self.assertEqual([row[0] for row in again.kept()], list(range(1, len(book.kept()) + 1)))
            self.assertEqual(shown(again), text)

    def test_room(self):
        text = "; ".join(["a b 1"] * 200)
        book = read(text)
        self.assertEqual(len(book.kept()), 200)
        refused(self, Full, book.take, "a", "b", 1)
        refused(self, Full, read, text + "; a b 1")
        refused(self, Full, read, text, 199)
        self.assertEqual(len(read(text, most=200).kept()), 200)

    def test_room_of_the_new_book(self):
        book = read("a b 1; c d 2", 3)
        self.assertEqual(book.take("e", "f", 3), 3)
        refused(self, Full, book.take, "g", "h", 4)
        refused(self, Full, read, "a b 1", 0)
        refused(self, Full, read, "a b 1; c d 2", 1)
        self.assertEqual(len(read("a b 1; c d 2", 2).kept()), 2)

    def test_against(self):
        self.assertEqual(refused(self, Against, read, "a b 1; b a 1").trail, [(1, "b", "a", -1)])
        trail = refused(self, Against, read, "a b 1; c b 2; a c 0; a b 9").trail
        self.assertEqual(trail, [(1, "a", "b", 1), (2, "b", "c", -2)])
        self.assertEqual(refused(self, Against, read, "a a 1").trail, [])
        self.assertEqual(refused(self, Against, read, "a b 1; z z -5; a b 2").trail, [])

    def test_the_first_from_the_left(self):
        refused(self, Full, read, "a b 1; a b 2", 1)
        refused(self, Against, read, "a b 1; a b 2", 2)
        refused(self, Against, read, "a b 1; a b 2; c d 1", 2)
        refused(self, Full, read, "a b 1; a b 1; a b 2", 2)
        refused(self, Full, read, "a a 1", 0)
        refused(self, Against, read, "a b 1; c c 1; e f 1; g h 1", 2)

    def test_texts_read_are_books_of_their_own(self):
        first, second = read("a b 1"), read("a b 1")
        first.drop(1)
        self.assertEqual(second.kept(), [(1, "a", "b", 1)])


class NoTexts(unittest.TestCase):
    def check(self, text):
        """Refused with NoText whatever the book would refuse."""
        with self.subTest(text=text[:80]):
            refused(self, NoText, read, text)
            refused(self, NoText, read, text, 0)
            refused(self, NoText, read, text, 1)

    def check_row(self, row):
        """Refused by itself, ahead of, behind and between rows, some of which would be refused as well."""
        self.check(row)
        for text in ("a b 1; {}", "{}; a b 1", "a b 1; {}; c d 2", "a a 1; {}", "a b 1; a b 2; {}", "{}; a a 1"):
            self.check(text.replace("{}", row))

    def test_rows_around_are_texts(self):
        self.assertEqual(len(read("a b 1; e f 3; c d 2").kept()), 3)
        refused(self, Against, read, "a a 1; e f 3")
        refused(self, Against, read, "a b 1; a b 2; e f 3")

    def test_words(self):
        for row in ("a", "a b", "a 1", "1", "a b c", "a b 1 1", "a b c 1", "a b 1 c", "1 a b 1", "a b 1 a b 1", "1 a b",
                    "a 1 b", "(a b 1)", "a,b,1", "ab1", "a b1", "ab 1"):
            self.check_row(row)

    def test_pegs(self):
        for peg in WRONG_PEGS:
            self.check_row(peg + " b 1")
            self.check_row("a " + peg + " 1")
            self.check_row(peg + " " + peg + " 0")

    def test_rises(self):
        for written in WRONG_RISES:
            self.check_row("a b " + written)
            self.check_row("a a " + written)

    def test_of_all_signs_just_nought_to_nine(self):
        # Every sign of the first few thousand, and of the others those that Python counts as figures.
        signs = [chr(code) for code in range(sys.maxunicode + 1) if code < 3000 or chr(code).isnumeric()]
        taken = []
        for sign in signs:
            try:
                read("a b 1" + sign)
            except NoText:
                continue
            taken.append(sign)
        self.assertEqual(taken, list("0123456789"))

    def test_signs_between_words(self):
        for sign in BETWEEN_WORDS:
            self.check_row("a" + sign + "b 1")
            self.check_row("a b" + sign + "1")

    def test_signs_around(self):
        for sign in AROUND:
            for text in ("a b 1", "a b 1; c d 2", "a a 1"):
                self.check(sign + text)
                self.check(text + sign)
                self.check(sign + text + sign)
            self.check(sign)

    def test_signs_between_rows(self):
        for sign in BETWEEN_ROWS:
            self.check("a b 1" + sign + "c d 2")
            self.check("a b 1" + sign + "a b 2")
            self.check("a b 1; c d 2" + sign + "e f 3")
            self.check("a b 1" + sign + "c d 2; e f 3")

    def test_a_fault_in_the_last_row(self):
        self.check("a a 1; a b 01")
        self.check("; ".join(["a b 1"] * 201 + ["a b -0"]))
        self.check("; ".join(["a b 1", "a b 2"] * 3 + ["a b"]))
        self.check("a b 1; a b 2; ")

    def test_a_long_text(self):
        self.check("a" * 60000)
        self.check(" " * 60000)
        self.check("; " * 30000)
        self.check("a b " + "1" * 59000)
        self.check("a b 1; " * 8000)


if __name__ == "__main__":
    unittest.main()
