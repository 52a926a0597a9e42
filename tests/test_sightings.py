import copy
import string
import sys
import unittest

from pegrise.sightings import is_peg, is_sighting, turned

GREATEST = 10 ** 60 - 1
PEGS = ("a", "z", "m", "az", "za", "oak", "abcdefgh", "stuvwxyz", "aaaaaaaa", "zzzzzzzz")
RISES = (0, 1, -1, 9, 10, -10, 12345, GREATEST, GREATEST - 1, 0 - GREATEST, 1 - GREATEST)

# Signs next to a and z, of other kinds, and letters that Python calls small but that lie outside a to z.
WRONG_SIGNS = (
    "A", "M", "Z", "0", "5", "9", " ", "\n", "\r", "\t", "\0", "\x7f", "`", "{", "_", "-", ".", ",", ";", "'", "@",
    "[", "\u00a0", "\u00aa", "\u00b5", "\u00df", "\u00e0", "\u00e4", "\u00e9", "\u0131", "\u017f", "\u0430",
    "\u03b1", "\u2028", "\uff41", "\uff5a", "\U0001d41a", "\u0301", "\u0661",
)


def other_kinds():
    return [
        None, True, False, 0, 1, -1, 7, GREATEST, 1.0, 0.5, 1j, b"a", b"abc", bytearray(b"abc"), object(), len, str,
        int, tuple, [], ["a"], ["a", "b", "c"], (), ("a",), ("a", "b"), {}, {"a": 1}, {"a": 1, "b": 2, "c": 3},
        set(), {"a"}, frozenset("a"), range(3), [[]], ([],), ({},), Exception("a"),
    ]


class Pegs(unittest.TestCase):
    def test_small_letters_are_pegs(self):
        for peg in PEGS:
            with self.subTest(peg=peg):
                self.assertIs(is_peg(peg), True)

    def test_every_length(self):
        for length in range(0, 30):
            for letter in "akz":
                with self.subTest(length=length, letter=letter):
                    self.assertIs(is_peg(letter * length), 1 <= length <= 8)

    def test_too_long(self):
        for text in ("abcdefghi", "a" * 9, "z" * 9, "a" * 100, "ab" * 30000):
            with self.subTest(length=len(text)):
                self.assertIs(is_peg(text), False)

    def test_the_text_without_signs_is_none(self):
        self.assertIs(is_peg(""), False)

    def test_of_all_signs_just_a_to_z(self):
        pegs = [chr(code) for code in range(sys.maxunicode + 1) if is_peg(chr(code))]
        self.assertEqual(pegs, list(string.ascii_lowercase))

    def test_every_letter_in_every_place(self):
        for place in range(8):
            for letter in string.ascii_lowercase:
                text = "k" * place + letter + "k" * (7 - place)
                with self.subTest(text=text):
                    self.assertIs(is_peg(text), True)

    def test_a_wrong_sign_in_any_place(self):
        for sign in WRONG_SIGNS:
            texts = [sign, sign + sign]
            for length in (1, 2, 4, 7):
                texts += ["k" * place + sign + "k" * (length - place) for place in range(length + 1)]
            for text in texts:
                with self.subTest(text=text):
                    self.assertIs(is_peg(text), False)

    def test_two_signs_that_end_a_line(self):
        for text in ("\r\n", "a\r\n", "\r\na", "a\r\nb", "a b", "a  b", " a", "a ", "a\n", "\na", "a\t", "\ta"):
            with self.subTest(text=text):
                self.assertIs(is_peg(text), False)

    def test_other_kinds_are_none(self):
        for thing in other_kinds():
            with self.subTest(thing=repr(thing)):
                self.assertIs(is_peg(thing), False)

    def test_a_sighting_is_no_peg(self):
        self.assertIs(is_peg(("a", "b", 1)), False)


class Sightings(unittest.TestCase):
    def test_two_pegs_and_a_rise(self):
        for one, other in (("a", "b"), ("b", "a"), ("a", "abcdefgh"), ("stuvwxyz", "z"), ("oak", "elm")):
            for rise in RISES:
                with self.subTest(one=one, other=other, rise=rise):
                    self.assertIs(is_sighting((one, other, rise)), True)

    def test_one_and_the_same_peg(self):
        for peg in PEGS:
            for rise in RISES:
                with self.subTest(peg=peg, rise=rise):
                    self.assertIs(is_sighting((peg, peg, rise)), True)

    def test_every_number_of_figures(self):
        for figures in range(1, 130):
            for number in (10 ** (figures - 1), 10 ** figures - 1):
                for rise in (number, 0 - number):
                    with self.subTest(figures=figures, rise=rise):
                        self.assertIs(is_sighting(("a", "b", rise)), figures <= 60)

    def test_rises_beyond_sixty_figures(self):
        for number in (10 ** 60, 10 ** 60 + 1, 10 ** 61, 10 ** 1000, 10 ** 4000 - 1):
            for rise in (number, 0 - number):
                self.assertIs(is_sighting(("a", "b", rise)), False)
                self.assertIs(is_sighting(("a", "a", rise)), False)

    def test_rises_that_are_no_whole_numbers(self):
        rises = (True, False, None, "", "0", "1", "-1", "a", 0.0, 1.0, -1.5, float("inf"), float("nan"), 1j, b"1",
                 [], [1], (), (1,), {}, {1: 1}, {1}, object(), int)
        for rise in rises:
            for one, other in (("a", "b"), ("a", "a")):
                with self.subTest(one=one, other=other, rise=repr(rise)):
                    self.assertIs(is_sighting((one, other, rise)), False)

    def test_the_first_or_the_second_is_no_peg(self):
        wrong = ["", "abcdefghi", "A", "a ", " a", "a\n", "\na", "a1", "\u00e9"] + list(WRONG_SIGNS) + other_kinds()
        for thing in wrong:
            for rise in (0, 3):
                with self.subTest(thing=repr(thing), rise=rise):
                    self.assertIs(is_sighting((thing, "b", rise)), False)
                    self.assertIs(is_sighting(("a", thing, rise)), False)
                    self.assertIs(is_sighting((thing, thing, rise)), False)

    def test_the_rise_in_another_place(self):
        for thing in ((1, "a", "b"), ("a", 1, "b"), ("a", "b", "c")):
            with self.subTest(thing=thing):
                self.assertIs(is_sighting(thing), False)

    def test_tuples_of_another_length(self):
        things = ((), ("a",), (1,), ("a", "b"), ("a", 1), ("a", "b", 1, 1), ("a", "b", 1, None), ("a", "b", "c", 1),
                  (1, "a", "b", 1), ("a", "b", 1) * 2, (("a", "b", 1),), ("a", "b", (1,)), (("a", "b"), 1))
        for thing in things:
            with self.subTest(thing=thing):
                self.assertIs(is_sighting(thing), False)

    def test_things_of_three_that_are_no_tuple(self):
        for thing in (["a", "b", 1], ["a", "a", 0], "abc", "ab1", {"a": 1, "b": 2, 1: 3}, {"a", "b", 1}, range(3)):
            with self.subTest(thing=thing):
                self.assertIs(is_sighting(thing), False)

    def test_a_peg_alone(self):
        for peg in PEGS + ("abc",):
            with self.subTest(peg=peg):
                self.assertIs(is_sighting(peg), False)

    def test_other_kinds_are_none(self):
        for thing in other_kinds():
            with self.subTest(thing=repr(thing)):
                self.assertIs(is_sighting(thing), False)

    def test_what_is_handed_in_stays_as_it_was(self):
        for thing in (["a", "b", 1], {"a": 1}, (["a"], {"b": 2}, [1]), ["a"]):
            before = copy.deepcopy(thing)
            is_peg(thing)
            is_sighting(thing)
            self.assertEqual(thing, before)


class Turned(unittest.TestCase):
    def test_pegs_and_sign_turned_about(self):
        self.assertEqual(turned(("a", "b", 5)), ("b", "a", -5))
        self.assertEqual(turned(("b", "a", -5)), ("a", "b", 5))
        self.assertEqual(turned(("oak", "elm", 1)), ("elm", "oak", -1))
        self.assertEqual(turned(("abcdefgh", "z", -1)), ("z", "abcdefgh", 1))

    def test_at_nought(self):
        told = turned(("a", "b", 0))
        self.assertEqual(told, ("b", "a", 0))
        self.assertIs(type(told[2]), int)

    def test_at_the_greatest_rises(self):
        self.assertEqual(turned(("a", "b", GREATEST)), ("b", "a", 0 - GREATEST))
        self.assertEqual(turned(("a", "b", 0 - GREATEST)), ("b", "a", GREATEST))

    def test_one_and_the_same_peg(self):
        self.assertEqual(turned(("a", "a", 7)), ("a", "a", -7))
        self.assertEqual(turned(("a", "a", 0)), ("a", "a", 0))

    def test_it_is_a_sighting_and_turned_twice_the_same_again(self):
        for one, other in (("a", "b"), ("b", "a"), ("a", "a"), ("stuvwxyz", "abcdefgh")):
            for rise in RISES:
                with self.subTest(one=one, other=other, rise=rise):
                    told = turned((one, other, rise))
                    self.assertIs(type(told), tuple)
                    self.assertIs(is_sighting(told), True)
                    self.assertEqual(told, (other, one, 0 - rise))
                    self.assertEqual(turned(told), (one, other, rise))

    def test_what_is_handed_in_stays_as_it_was(self):
        for rise in RISES:
            sighting = ("a", "b", rise)
            turned(sighting)
            self.assertEqual(sighting, ("a", "b", rise))


if __name__ == "__main__":
    unittest.main()
