import itertools
import random
import unittest

from pegrise.ways import part_of, total, way_along
from tests.walking import GREATEST, check_way, part_around, parts_of, pegs_in, turned_row

CHAIN = [(1, "a", "b", 5), (2, "b", "c", -7), (3, "c", "d", 0), (4, "d", "e", 11)]
RING = [(1, "a", "b", 1), (2, "b", "c", 2), (3, "c", "d", 3), (4, "d", "a", 4)]
TWINS = [(1, "a", "b", 1), (2, "a", "b", 2), (3, "b", "a", 3), (4, "b", "a", -1)]
LOOPS = [(1, "a", "a", 0), (2, "a", "b", 3), (3, "b", "b", 9), (4, "z", "z", -4)]
APART = [(1, "a", "b", 1), (2, "c", "d", 2), (3, "b", "x", 3), (4, "y", "d", 4)]
BEGINNINGS = [(1, "a", "abc", 1), (2, "ab", "b", 2), (3, "abcd", "ab", 3), (4, "aa", "abc", 4)]
KNOT = [(7, "a", "b", 1), (3, "c", "b", 5), (9, "c", "a", 8), (1, "c", "d", 2), (5, "e", "d", 1), (2, "e", "c", 6),
        (8, "f", "e", 4), (4, "f", "f", 1), (6, "g", "h", 0)]
ALL = ([], CHAIN, RING, TWINS, LOOPS, APART, BEGINNINGS, KNOT)


def random_rows(source):
    pegs = ["a", "ab", "abc", "b", "ba", "bab", "c", "zz"][:source.randint(1, 8)]
    numbers = source.sample(range(1, 40), source.randint(0, 10))
    return [(number, source.choice(pegs), source.choice(pegs), source.randint(-9, 9)) for number in numbers]


class Totals(unittest.TestCase):
    def test_of_no_steps(self):
        told = total([])
        self.assertEqual(told, 0)
        self.assertIs(type(told), int)

    def test_of_some_steps(self):
        self.assertEqual(total([(1, "a", "b", 5)]), 5)
        self.assertEqual(total([(1, "a", "b", -5)]), -5)
        self.assertEqual(total(CHAIN), 9)
        self.assertEqual(total(RING), 10)

    def test_numbers_of_rows_do_not_count(self):
        self.assertEqual(total([(100, "a", "b", 1), (70, "b", "c", 2)]), 3)

    def test_of_rows_turned_about(self):
        self.assertEqual(total([(2, "c", "b", 7), (1, "b", "a", -5)]), 2)

    def test_of_the_greatest_rises(self):
        up, down = (1, "a", "b", GREATEST), (2, "b", "c", 0 - GREATEST)
        self.assertEqual(total([up, down]), 0)
        self.assertEqual(total([up, up, down]), GREATEST)
        self.assertEqual(total([up] * 200), 200 * GREATEST)
        self.assertEqual(total([down] * 200), -200 * GREATEST)
        self.assertEqual(total([up, (2, "b", "c", 1)]), 10 ** 60)
        self.assertEqual(total([down, (1, "c", "d", GREATEST - 1)]), -1)

    def test_the_list_handed_in_stays_as_it_was(self):
        steps = list(CHAIN)
        total(steps)
        self.assertEqual(steps, CHAIN)


class Ways(unittest.TestCase):
    def check_all(self, rows):
        """Asks every way between the pegs of the rows and one more peg, and holds it against the parts."""
        before = list(rows)
        pegs = pegs_in(rows) + ["qqq"]
        for one, other in itertools.product(pegs, pegs):
            with self.subTest(rows=rows, one=one, other=other):
                told = way_along(rows, one, other)
                if other in part_around(rows, one):
                    check_way(self, told, rows, one, other)
                else:
                    self.assertIsNone(told)
                self.assertEqual(rows, before)

    def test_without_rows(self):
        self.assertIsNone(way_along([], "a", "b"))
        self.assertEqual(way_along([], "a", "a"), [])

    def test_a_peg_to_itself(self):
        for rows in ALL:
            for peg in pegs_in(rows) + ["q", "abcdefgh"]:
                with self.subTest(rows=rows, peg=peg):
                    told = way_along(rows, peg, peg)
                    self.assertEqual(told, [])
                    self.assertIs(type(told), list)

    def test_one_row(self):
        rows = [(4, "a", "b", 5)]
        self.assertEqual(way_along(rows, "a", "b"), [(4, "a", "b", 5)])
        self.assertEqual(way_along(rows, "b", "a"), [(4, "b", "a", -5)])
        self.assertIsNone(way_along(rows, "a", "c"))
        self.assertIsNone(way_along(rows, "c", "a"))

    def test_a_peg_that_no_row_has(self):
        for rows in ALL:
            for peg in pegs_in(rows):
                with self.subTest(rows=rows, peg=peg):
                    self.assertIsNone(way_along(rows, peg, "q"))
                    self.assertIsNone(way_along(rows, "q", peg))
            self.assertIsNone(way_along(rows, "q", "r"))

    def test_a_chain_and_back(self):
        self.assertEqual(way_along(CHAIN, "a", "e"), CHAIN)
        back = [(4, "e", "d", -11), (3, "d", "c", 0), (2, "c", "b", 7), (1, "b", "a", -5)]
        self.assertEqual(way_along(CHAIN, "e", "a"), back)
        self.assertEqual(way_along(CHAIN, "d", "b"), back[1:3])

    def test_rows_turned_about_on_the_way(self):
        rows = [(1, "b", "a", 5), (2, "b", "c", 3), (3, "d", "c", -1)]
        told = [(1, "a", "b", -5), (2, "b", "c", 3), (3, "c", "d", 1)]
        self.assertEqual(way_along(rows, "a", "d"), told)
        self.assertEqual(total(told), -1)

    def test_rows_in_any_order(self):
        for order in itertools.permutations(CHAIN):
            with self.subTest(order=order):
                self.assertEqual(way_along(list(order), "a", "e"), CHAIN)

    def test_numbers_in_any_order(self):
        for numbers in itertools.permutations((1, 5, 2, 900)):
            rows = [(number,) + row[1:] for number, row in zip(numbers, CHAIN)]
            with self.subTest(numbers=numbers):
                self.assertEqual(way_along(rows, "a", "e"), rows)

    def test_every_way_is_walked(self):
        for rows in ALL:
            self.check_all(list(rows))
            self.check_all(list(reversed(rows)))
            self.check_all([turned_row(row) for row in rows])

    def test_several_rows_of_the_same_pegs(self):
        told = way_along(TWINS, "a", "b")
        self.assertEqual(len(told), 1)
        self.assertIn(told[0], [(1, "a", "b", 1), (2, "a", "b", 2), (3, "a", "b", -3), (4, "a", "b", 1)])

    def test_a_row_of_a_peg_with_itself_is_on_no_way(self):
        self.assertEqual(way_along(LOOPS, "a", "b"), [(2, "a", "b", 3)])
        self.assertEqual(way_along(LOOPS, "b", "a"), [(2, "b", "a", -3)])
        self.assertEqual(way_along(LOOPS, "z", "z"), [])
        self.assertIsNone(way_along(LOOPS, "a", "z"))

    def test_pegs_that_are_beginnings_of_one_another(self):
        self.assertEqual(way_along(BEGINNINGS, "a", "aa"), [(1, "a", "abc", 1), (4, "abc", "aa", -4)])
        self.assertEqual(way_along(BEGINNINGS, "b", "abcd"), [(2, "b", "ab", -2), (3, "ab", "abcd", -3)])
        self.assertIsNone(way_along(BEGINNINGS, "a", "ab"))
        self.assertIsNone(way_along(BEGINNINGS, "abcd", "abc"))

    def test_the_greatest_rises_turned_about(self):
        rows = [(1, "a", "b", GREATEST), (2, "c", "b", 0 - GREATEST)]
        self.assertEqual(way_along(rows, "b", "a"), [(1, "b", "a", 0 - GREATEST)])
        self.assertEqual(total(way_along(rows, "a", "c")), 2 * GREATEST)

    def test_many_rows_drawn_by_lot(self):
        source = random.Random(5)
        for turn in range(150):
            self.check_all(random_rows(source))

    def test_four_hundred_rows(self):
        names = ["p" + chr(97 + n // 26) + chr(97 + n % 26) for n in range(401)]
        rows = [(n + 1, names[n], names[n + 1], n) for n in range(400)]
        self.assertEqual(way_along(rows, names[0], names[400]), rows)
        check_way(self, way_along(rows, names[400], names[0]), rows, names[400], names[0])
        self.assertEqual(part_of(rows, names[200]), names)

    def test_what_was_told_is_the_askers_own(self):
        rows = list(CHAIN)
        first, second = way_along(rows, "a", "e"), way_along(rows, "a", "e")
        first.clear()
        self.assertEqual(second, CHAIN)
        self.assertEqual(rows, CHAIN)
        self.assertEqual(way_along(rows, "a", "e"), CHAIN)
        rows.clear()
        self.assertEqual(second, CHAIN)
        way_along(rows, "a", "a").append("x")
        self.assertEqual(way_along(rows, "a", "a"), [])


class Parts(unittest.TestCase):
    def test_without_rows(self):
        self.assertEqual(part_of([], "a"), ["a"])

    def test_a_peg_that_no_row_has(self):
        for rows in ALL:
            with self.subTest(rows=rows):
                self.assertEqual(part_of(rows, "q"), ["q"])

    def test_of_each_peg(self):
        for rows in ALL:
            for listed in (list(rows), list(reversed(rows)), [turned_row(row) for row in rows]):
                before = list(listed)
                for part in parts_of(rows):
                    for peg in part:
                        with self.subTest(rows=listed, peg=peg):
                            told = part_of(listed, peg)
                            self.assertEqual(told, part)
                            self.assertIs(type(told), list)
                self.assertEqual(listed, before)

    def test_written_out(self):
        self.assertEqual(part_of(CHAIN, "c"), ["a", "b", "c", "d", "e"])
        self.assertEqual(part_of(RING, "d"), ["a", "b", "c", "d"])
        self.assertEqual(part_of(TWINS, "b"), ["a", "b"])
        self.assertEqual(part_of(LOOPS, "z"), ["z"])
        self.assertEqual(part_of(LOOPS, "b"), ["a", "b"])
        self.assertEqual(part_of(APART, "x"), ["a", "b", "x"])
        self.assertEqual(part_of(APART, "c"), ["c", "d", "y"])

    def test_sorted_as_texts(self):
        self.assertEqual(part_of(BEGINNINGS, "abc"), ["a", "aa", "abc"])
        self.assertEqual(part_of(BEGINNINGS, "b"), ["ab", "abcd", "b"])
        rows = [(1, "b", "ab", 1), (2, "ab", "a", 1), (3, "a", "abc", 1), (4, "z", "abc", 1)]
        for peg in ("a", "ab", "abc", "b", "z"):
            self.assertEqual(part_of(rows, peg), ["a", "ab", "abc", "b", "z"])

    def test_many_rows_drawn_by_lot(self):
        source = random.Random(7)
        for turn in range(150):
            rows = random_rows(source)
            for peg in pegs_in(rows) + ["qqq"]:
                with self.subTest(rows=rows, peg=peg):
                    self.assertEqual(part_of(rows, peg), part_around(rows, peg))

    def test_what_was_told_is_the_askers_own(self):
        rows = list(CHAIN)
        first, second = part_of(rows, "a"), part_of(rows, "a")
        first.clear()
        self.assertEqual(second, ["a", "b", "c", "d", "e"])
        self.assertEqual(part_of(rows, "a"), second)
        self.assertEqual(rows, CHAIN)
        rows.clear()
        self.assertEqual(second, ["a", "b", "c", "d", "e"])
        part_of(rows, "a").append("x")
        self.assertEqual(part_of(rows, "a"), ["a"])


if __name__ == "__main__":
    unittest.main()
