import copy
import random
import unittest

from pegrise.book import Book
from pegrise.errors import Against, Full, NoNumber, NoSighting, NoWay, PegError
from pegrise.ways import total
from tests.walking import (
    GREATEST, book_of, check_way, no_pegs, no_rises, other_kinds, part_around, parts_of, pegs_in, refused, state,
)

CHAIN = [("a", "b", 5), ("b", "c", -7), ("d", "c", 2)]
LAND = CHAIN + [("a", "c", -2), ("x", "y", 3), ("z", "z", 0), ("y", "x", -3)]


def no_numbers():
    """What is no number of a kept sighting in a book that keeps 1, 2 and 3, whatever was dropped above them."""
    return [0, -1, -2, 4, 5, 1000, GREATEST, 10 ** 4000 - 1, "", "1", "a", (1, "a", "b", 5)] + other_kinds()


class Taking(unittest.TestCase):
    def test_numbers_from_one_on(self):
        book = Book()
        self.assertEqual([book.take(*sighting) for sighting in LAND], [1, 2, 3, 4, 5, 6, 7])
        self.assertEqual(book.kept(), [(place + 1,) + sighting for place, sighting in enumerate(LAND)])
        self.assertIs(type(book.take("q", "r", 1)), int)

    def test_numbers_whatever_was_dropped_or_refused(self):
        book = Book(3)
        self.assertEqual(book.take("a", "b", 1), 1)
        refused(self, Against, book.take, "a", "b", 2)
        self.assertEqual(book.take("b", "c", 1), 2)
        book.drop(2)
        self.assertEqual(book.take("b", "c", 1), 3)
        refused(self, NoSighting, book.take, "A", "b", 2)
        refused(self, NoNumber, book.drop, 2)
        book.drop(1)
        book.drop(3)
        self.assertEqual(book.take("a", "b", 9), 4)
        refused(self, NoWay, book.rise, "a", "z")
        self.assertEqual(book.take("c", "d", 9), 5)
        self.assertEqual(book.take("c", "d", 9), 6)
        refused(self, Full, book.take, "e", "f", 1)
        book.drop(6)
        self.assertEqual(book.take("e", "f", 1), 7)
        self.assertEqual(book.kept(), [(4, "a", "b", 9), (5, "c", "d", 9), (7, "e", "f", 1)])

    def test_books_do_not_share(self):
        first, second = Book(), Book()
        first.take("a", "b", 1)
        self.assertEqual(second.kept(), [])
        self.assertEqual(second.take("a", "b", 2), 1)
        self.assertEqual(first.kept(), [(1, "a", "b", 1)])

    def test_no_sighting_for_a_wrong_peg(self):
        for book in (Book(), book_of(LAND), Book(0), book_of(LAND, 7)):
            before = state(book)
            for thing in no_pegs():
                with self.subTest(thing=repr(thing)[:80]):
                    refused(self, NoSighting, book.take, thing, "b", 1)
                    refused(self, NoSighting, book.take, "a", thing, 1)
                    refused(self, NoSighting, book.take, thing, thing, 0)
            self.assertEqual(state(book), before)

    def test_no_sighting_for_a_wrong_rise(self):
        for book in (Book(), book_of(LAND), Book(0), book_of(LAND, 7)):
            before = state(book)
            for thing in no_rises():
                with self.subTest(thing=repr(thing)[:80]):
                    refused(self, NoSighting, book.take, "a", "b", thing)
                    refused(self, NoSighting, book.take, "a", "a", thing)
                    refused(self, NoSighting, book.take, "q", "r", thing)
            self.assertEqual(state(book), before)

    def test_sixty_figures_are_taken(self):
        book = Book()
        self.assertEqual(book.take("a", "b", GREATEST), 1)
        self.assertEqual(book.take("b", "c", GREATEST), 2)
        self.assertEqual(book.take("d", "c", 0 - GREATEST), 3)
        self.assertEqual(book.rise("a", "d"), 3 * GREATEST)
        self.assertEqual(book.rise("d", "a"), -3 * GREATEST)
        self.assertEqual(book.heights()[3], ("d", 3 * GREATEST))
        refused(self, NoSighting, book.take, "a", "c", 2 * GREATEST)
        trail = refused(self, Against, book.take, "a", "c", GREATEST).trail
        self.assertEqual(trail, [(1, "a", "b", GREATEST), (2, "b", "c", GREATEST)])

    def test_where_a_way_agrees(self):
        book = book_of(CHAIN)
        self.assertEqual(book.take("a", "d", -4), 4)
        self.assertEqual(book.take("d", "a", 4), 5)
        self.assertEqual(book.take("a", "b", 5), 6)
        self.assertEqual(book.take("b", "a", -5), 7)

    def test_where_no_way_leads(self):
        book = book_of(CHAIN)
        self.assertEqual(book.take("x", "y", 77), 4)
        self.assertEqual(book.take("d", "x", -100), 5)
        self.assertEqual(book.rise("a", "y"), -4 - 100 + 77)

    def test_against_tells_the_trail(self):
        book = book_of(CHAIN)
        before = state(book)
        for rise in (0, 4, -5, -3, GREATEST, 0 - GREATEST):
            trail = refused(self, Against, book.take, "a", "d", rise).trail
            self.assertEqual(trail, [(1, "a", "b", 5), (2, "b", "c", -7), (3, "c", "d", -2)])
            trail = refused(self, Against, book.take, "d", "a", 0 - rise).trail
            self.assertEqual(trail, [(3, "d", "c", 2), (2, "c", "b", 7), (1, "b", "a", -5)])
        self.assertEqual(state(book), before)
        self.assertEqual(book.take("a", "d", -4), 4)

    def test_against_by_one_row(self):
        book = book_of([("a", "b", 5)])
        self.assertEqual(refused(self, Against, book.take, "a", "b", -5).trail, [(1, "a", "b", 5)])
        self.assertEqual(refused(self, Against, book.take, "b", "a", 5).trail, [(1, "b", "a", -5)])
        self.assertEqual(refused(self, Against, book.take, "a", "b", 0).trail, [(1, "a", "b", 5)])

    def test_a_peg_with_itself(self):
        for book in (Book(), book_of(LAND)):
            number = len(book.kept()) + 1
            for rise in (1, -1, GREATEST, 0 - GREATEST):
                for peg in ("a", "z", "new"):
                    self.assertEqual(refused(self, Against, book.take, peg, peg, rise).trail, [])
            self.assertEqual(book.take("a", "a", 0), number)
            self.assertEqual(book.take("a", "a", 0), number + 1)
            self.assertEqual(book.take("new", "new", 0), number + 2)
            self.assertEqual(refused(self, Against, book.take, "a", "a", 1).trail, [])

    def test_taken_behind_a_drop_of_a_step(self):
        for number in (1, 2, 3):
            book = book_of(CHAIN)
            trail = refused(self, Against, book.take, "a", "d", 100).trail
            self.assertIn(number, [step[0] for step in trail])
            book.drop(number)
            self.assertEqual(book.take("a", "d", 100), 4)
            self.assertEqual(book.rise("a", "d"), 100)
            self.assertEqual(book.rise("d", "a"), -100)

    def test_still_against_where_another_way_is_left(self):
        book = book_of(CHAIN + [("a", "c", -2)])
        book.drop(4)
        refused(self, Against, book.take, "a", "c", 1)
        book = book_of(CHAIN + [("a", "c", -2)])
        book.drop(1)
        self.assertEqual(refused(self, Against, book.take, "a", "c", 1).trail, [(4, "a", "c", -2)])
        self.assertEqual(book.take("a", "b", 5), 5)


class Room(unittest.TestCase):
    def test_book_of_none(self):
        book = Book(0)
        refused(self, Full, book.take, "a", "b", 1)
        refused(self, Full, book.take, "a", "a", 0)
        refused(self, Full, book.take, "a", "a", 1)
        self.assertEqual(state(book), ([], [], [], []))

    def test_full_ahead_of_against(self):
        book = book_of([("a", "b", 1)], 1)
        refused(self, Full, book.take, "a", "b", 2)
        refused(self, Full, book.take, "a", "a", 2)
        refused(self, Full, book.take, "c", "d", 2)
        refused(self, Full, book.take, "a", "b", 1)
        self.assertEqual(book.kept(), [(1, "a", "b", 1)])
        book.drop(1)
        self.assertEqual(book.take("a", "b", 2), 2)
        refused(self, Full, book.take, "a", "b", 2)

    def test_against_where_there_is_room(self):
        book = book_of([("a", "b", 1)], 2)
        refused(self, Against, book.take, "a", "b", 2)
        self.assertEqual(book.take("a", "b", 1), 2)
        refused(self, Full, book.take, "a", "b", 2)

    def test_most_by_its_name(self):
        book = Book(most=2)
        book.take("a", "b", 1)
        book.take("a", "b", 1)
        refused(self, Full, book.take, "a", "b", 1)

    def test_two_hundred(self):
        for book in (Book(), Book(200)):
            self.assertEqual([book.take("a", "b", 1) for turn in range(200)], list(range(1, 201)))
            before = state(book)
            refused(self, Full, book.take, "a", "b", 1)
            refused(self, Full, book.take, "a", "b", 2)
            refused(self, Full, book.take, "c", "d", 1)
            refused(self, NoSighting, book.take, "c", "", 1)
            self.assertEqual(state(book), before)
            self.assertEqual(book.drop(77), ("a", "b", 1))
            self.assertEqual(book.take("c", "d", 1), 201)
            refused(self, Full, book.take, "c", "d", 1)
            self.assertEqual([row[0] for row in book.kept()], list(range(1, 77)) + list(range(78, 202)))

    def test_one_less_than_two_hundred(self):
        book = book_of([("a", "b", 1)] * 199, 199)
        refused(self, Full, book.take, "a", "b", 1)


class Dropping(unittest.TestCase):
    def test_tells_the_sighting(self):
        book = book_of(LAND)
        for place in (3, 0, 6, 1, 5, 2, 4):
            told = book.drop(place + 1)
            self.assertIs(type(told), tuple)
            self.assertEqual(told, LAND[place])
        self.assertEqual(state(book), ([], [], [], []))
        self.assertEqual(book.take("a", "b", 1), 8)

    def test_the_others_stay(self):
        book = book_of(LAND)
        book.drop(2)
        book.drop(5)
        kept = [(1, "a", "b", 5), (3, "d", "c", 2), (4, "a", "c", -2), (6, "z", "z", 0), (7, "y", "x", -3)]
        self.assertEqual(book.kept(), kept)
        self.assertEqual(book.rise("b", "c"), -7)

    def test_no_number(self):
        book = book_of(CHAIN + [("q", "r", 1), ("s", "t", 1)])
        book.drop(4)
        book.drop(5)
        before = state(book)
        for thing in no_numbers():
            with self.subTest(thing=repr(thing)[:80]):
                refused(self, NoNumber, book.drop, thing)
                refused(self, NoNumber, book.spare, thing)
        self.assertEqual(state(book), before)
        self.assertEqual(book.take("q", "r", 9), 6)

    def test_dropped_twice(self):
        book = book_of(CHAIN)
        book.drop(2)
        refused(self, NoNumber, book.drop, 2)
        refused(self, NoNumber, book.spare, 2)
        self.assertEqual(book.drop(1), CHAIN[0])
        refused(self, NoNumber, book.drop, 1)
        book.take("b", "c", -7)
        refused(self, NoNumber, book.drop, 2)
        self.assertEqual(book.drop(4), CHAIN[1])

    def test_of_an_empty_book(self):
        for thing in no_numbers() + [1, 2, 3]:
            refused(self, NoNumber, Book().drop, thing)
            refused(self, NoNumber, Book().spare, thing)

    def test_what_is_handed_in_stays_as_it_was(self):
        book = book_of(CHAIN)
        for thing in ([1], {1: 2}, [[1]], ([1],)):
            before = copy.deepcopy(thing)
            for call in (book.drop, book.spare):
                refused(self, NoNumber, call, thing)
            refused(self, NoSighting, book.take, thing, thing, thing)
            refused(self, NoSighting, book.rise, thing, thing)
            refused(self, NoSighting, book.way, thing, thing)
            self.assertEqual(thing, before)


class Spare(unittest.TestCase):
    def spares(self, book):
        told = [book.spare(row[0]) for row in book.kept()]
        for each in told:
            self.assertIs(type(each), bool)
        return told

    def test_a_chain_has_none(self):
        self.assertEqual(self.spares(book_of(CHAIN)), [False, False, False])

    def test_a_peg_with_itself(self):
        self.assertEqual(self.spares(book_of([("a", "a", 0)])), [True])
        self.assertEqual(self.spares(book_of([("a", "b", 1), ("b", "b", 0)])), [False, True])

    def test_two_rows_of_the_same_pegs(self):
        self.assertEqual(self.spares(book_of([("a", "b", 1), ("a", "b", 1)])), [True, True])
        self.assertEqual(self.spares(book_of([("a", "b", 1), ("b", "a", -1)])), [True, True])

    def test_a_ring_with_a_tail(self):
        ring = [("a", "b", 1), ("b", "c", 2), ("a", "c", 3), ("c", "d", 4)]
        self.assertEqual(self.spares(book_of(ring)), [True, True, True, False])

    def test_it_tells_of_what_is_kept_now(self):
        book = book_of([("a", "b", 1), ("b", "c", 2)])
        self.assertIs(book.spare(1), False)
        book.take("c", "a", -3)
        self.assertEqual(self.spares(book), [True, True, True])
        book.drop(2)
        self.assertIs(book.spare(1), False)
        self.assertIs(book.spare(3), False)
        book.take("b", "a", -1)
        self.assertIs(book.spare(1), True)
        self.assertIs(book.spare(4), True)
        self.assertIs(book.spare(3), False)

    def test_it_changes_nothing(self):
        book = book_of(LAND)
        before = state(book)
        for number in range(1, 8):
            for turn in range(3):
                book.spare(number)
        self.assertEqual(state(book), before)
        self.assertEqual(book.take("a", "b", 5), 8)

    def test_just_where_every_rise_is_told_without_it(self):
        for number in range(1, 8):
            book, without = book_of(LAND), book_of(LAND)
            without.drop(number)
            pegs = pegs_in(book.kept())
            known = [(one, other) for one in pegs for other in pegs if other in part_around(book.kept(), one)]
            still = all(other in part_around(without.kept(), one) for one, other in known)
            self.assertIs(book.spare(number), still)


class Rises(unittest.TestCase):
    def test_along_a_way(self):
        book = book_of(CHAIN)
        self.assertEqual(book.rise("a", "b"), 5)
        self.assertEqual(book.rise("b", "a"), -5)
        self.assertEqual(book.rise("a", "d"), -4)
        self.assertEqual(book.rise("d", "a"), 4)
        self.assertEqual(book.way("a", "d"), [(1, "a", "b", 5), (2, "b", "c", -7), (3, "c", "d", -2)])
        self.assertEqual(book.way("d", "b"), [(3, "d", "c", 2), (2, "c", "b", 7)])

    def test_a_peg_to_itself(self):
        for book in (Book(), Book(0), book_of(LAND)):
            for peg in ("a", "z", "new", "abcdefgh"):
                with self.subTest(peg=peg):
                    told = book.rise(peg, peg)
                    self.assertEqual(told, 0)
                    self.assertIs(type(told), int)
                    self.assertEqual(book.way(peg, peg), [])

    def test_no_way(self):
        book = book_of(LAND)
        before = state(book)
        for call in (book.rise, book.way):
            self.assertEqual(refused(self, NoWay, call, "b", "x").near, ["a", "b", "c", "d"])
            self.assertEqual(refused(self, NoWay, call, "x", "b").near, ["x", "y"])
            self.assertEqual(refused(self, NoWay, call, "y", "new").near, ["x", "y"])
            self.assertEqual(refused(self, NoWay, call, "new", "y").near, ["new"])
            self.assertEqual(refused(self, NoWay, call, "z", "a").near, ["z"])
            self.assertEqual(refused(self, NoWay, call, "new", "newer").near, ["new"])
        self.assertEqual(state(book), before)

    def test_no_way_in_an_empty_book(self):
        for book in (Book(), Book(0)):
            self.assertEqual(refused(self, NoWay, book.rise, "a", "b").near, ["a"])
            self.assertEqual(refused(self, NoWay, book.way, "b", "a").near, ["b"])

    def test_no_way_behind_a_drop(self):
        book = book_of(CHAIN)
        book.drop(2)
        self.assertEqual(refused(self, NoWay, book.rise, "a", "d").near, ["a", "b"])
        self.assertEqual(refused(self, NoWay, book.way, "d", "a").near, ["c", "d"])

    def test_near_is_sorted(self):
        book = book_of([("b", "ab", 1), ("ab", "a", 1), ("abc", "b", 1)])
        self.assertEqual(refused(self, NoWay, book.rise, "b", "z").near, ["a", "ab", "abc", "b"])

    def test_no_sighting_ahead_of_no_way(self):
        for book in (Book(), book_of(LAND)):
            before = state(book)
            for thing in no_pegs():
                for call in (book.rise, book.way):
                    with self.subTest(thing=repr(thing)[:80]):
                        refused(self, NoSighting, call, thing, "a")
                        refused(self, NoSighting, call, "a", thing)
                        refused(self, NoSighting, call, "new", thing)
                        refused(self, NoSighting, call, thing, "new")
                        refused(self, NoSighting, call, thing, thing)
            self.assertEqual(state(book), before)


class PartsAndHeights(unittest.TestCase):
    def test_of_an_empty_book(self):
        for book in (Book(), Book(0)):
            self.assertEqual(book.parts(), [])
            self.assertEqual(book.heights(), [])
            self.assertEqual(book.kept(), [])

    def test_written_out(self):
        book = book_of(LAND)
        self.assertEqual(book.parts(), [["a", "b", "c", "d"], ["x", "y"], ["z"]])
        heights = [("a", 0), ("b", 5), ("c", -2), ("d", -4), ("x", 0), ("y", 3), ("z", 0)]
        self.assertEqual(book.heights(), heights)

    def test_sorted_whatever_came_first(self):
        sightings = [("z", "m", 1), ("y", "b", 2), ("abc", "c", 3), ("ab", "ab", 0), ("a", "abcd", 5), ("y", "n", 1)]
        book = book_of(sightings)
        self.assertEqual(book.parts(), [["a", "abcd"], ["ab"], ["abc", "c"], ["b", "n", "y"], ["m", "z"]])
        heights = [("a", 0), ("ab", 0), ("abc", 0), ("abcd", 5), ("b", 0), ("c", 3), ("m", 0), ("n", -1), ("y", -2),
                   ("z", -1)]
        self.assertEqual(book.heights(), heights)

    def test_kinds(self):
        book = book_of(LAND)
        for part in book.parts():
            self.assertIs(type(part), list)
        for pair in book.heights():
            self.assertIs(type(pair), tuple)
            self.assertEqual(len(pair), 2)
            self.assertIs(type(pair[1]), int)

    def test_a_peg_with_itself(self):
        book = book_of([("m", "m", 0)])
        self.assertEqual(book.parts(), [["m"]])
        self.assertEqual(book.heights(), [("m", 0)])
        book.drop(1)
        self.assertEqual(book.parts(), [])
        self.assertEqual(book.heights(), [])

    def test_a_ring_counts_once(self):
        book = book_of([("c", "b", 1), ("b", "a", 1), ("a", "c", -2), ("a", "a", 0)])
        self.assertEqual(book.parts(), [["a", "b", "c"]])
        self.assertEqual(book.heights(), [("a", 0), ("b", -1), ("c", -2)])

    def test_behind_a_drop(self):
        book = book_of(CHAIN)
        book.drop(2)
        self.assertEqual(book.parts(), [["a", "b"], ["c", "d"]])
        self.assertEqual(book.heights(), [("a", 0), ("b", 5), ("c", 0), ("d", -2)])
        book.drop(3)
        self.assertEqual(book.parts(), [["a", "b"]])

    def test_two_hundred_sightings_in_one_chain(self):
        names = ["p" + chr(97 + n // 26) + chr(97 + n % 26) for n in range(201)]
        book = book_of([(names[n], names[n + 1], n) for n in range(200)])
        self.assertEqual(book.parts(), [names])
        self.assertEqual(book.heights(), [(names[n], n * (n - 1) // 2) for n in range(201)])
        self.assertEqual(len(book.way(names[200], names[0])), 200)

    def test_two_hundred_sightings_apart(self):
        names = ["p" + chr(97 + n // 26) + chr(97 + n % 26) for n in range(400)]
        book = book_of([(names[2 * n + 1], names[2 * n], 7) for n in range(200)])
        self.assertEqual(book.parts(), [[names[2 * n], names[2 * n + 1]] for n in range(200)])
        self.assertEqual(book.heights(), [(names[n], -7 * (n % 2)) for n in range(400)])


class Kept(unittest.TestCase):
    def test_rows_of_four_with_rising_numbers(self):
        book = book_of(LAND)
        for number in (4, 1, 7):
            book.drop(number)
        book.take("n", "o", 1)
        kept = book.kept()
        self.assertIs(type(kept), list)
        for row in kept:
            self.assertIs(type(row), tuple)
            self.assertEqual(len(row), 4)
        self.assertEqual([row[0] for row in kept], [2, 3, 5, 6, 8])
        self.assertEqual(kept[0], (2, "b", "c", -7))
        self.assertEqual(kept[4], (8, "n", "o", 1))


class Own(unittest.TestCase):
    """Every list that is told is a new one and the asker's own."""

    def tell(self, book):
        """Each list that a book tells, those within lists and refusals too."""
        against = refused(self, Against, book.take, "a", "d", 1)
        no_way = refused(self, NoWay, book.rise, "a", "x")
        no_way_either = refused(self, NoWay, book.way, "a", "x")
        parts = book.parts()
        return [book.kept(), book.way("a", "d"), book.way("a", "a"), parts, book.heights(), against.trail, no_way.near,
                no_way_either.near] + parts

    def test_changed_by_the_asker(self):
        book = book_of(LAND)
        expected = copy.deepcopy(self.tell(book))
        for change in (list.clear, list.reverse, lambda told: told.append("x"), lambda told: told.insert(0, (1,))):
            for told in self.tell(book):
                change(told)
            self.assertEqual(self.tell(book), expected)
        self.assertEqual(book.take("d", "a", 4), 8)

    def test_held_by_the_asker(self):
        book = book_of(LAND)
        held = self.tell(book)
        expected = copy.deepcopy(held)
        book.take("d", "x", 4)
        book.take("x", "new", 4)
        self.assertEqual(held, expected)
        for number in range(1, 10):
            book.drop(number)
            self.assertEqual(held, expected)
        book.take("a", "d", 1)
        book.heights()
        refused(self, Against, book.take, "a", "d", 2)
        refused(self, NoWay, book.way, "a", "x")
        self.assertEqual(held, expected)

    def test_two_tellings_are_two_lists(self):
        book = book_of(LAND)
        for first, second in zip(self.tell(book), self.tell(book)):
            self.assertEqual(first, second)
            self.assertIsNot(first, second)


class Drawn(unittest.TestCase):
    """Many takings and droppings drawn by lot, each answer held against what follows from the rows kept."""

    PEGS = ["a", "ab", "abc", "b", "ba", "c", "d", "zz"]

    def check_take(self, book, sighting, expected, taken, most):
        known = sighting[1] in part_around(expected, sighting[0])
        try:
            number = book.take(*sighting)
        except Full:
            self.assertEqual(len(expected), most)
            return taken
        except Against as error:
            self.assertTrue(known)
            check_way(self, error.trail, expected, sighting[0], sighting[1])
            self.assertNotEqual(total(error.trail), sighting[2])
            return taken
        self.assertLess(len(expected), most)
        self.assertEqual(number, taken + 1)
        if known:
            self.assertEqual(total(book_way(expected, sighting)), sighting[2])
        expected.append((number,) + sighting)
        return number

    def check_answers(self, book, expected):
        self.assertEqual(book.kept(), expected)
        self.assertEqual(book.parts(), parts_of(expected))
        heights = book.heights()
        self.assertEqual([pair[0] for pair in heights], pegs_in(expected))
        stand = dict(heights)
        for part in parts_of(expected):
            self.assertEqual(stand[part[0]], 0)
        for number, one, other, rise in expected:
            self.assertEqual(stand[other] - stand[one], rise)
            others = [row for row in expected if row[0] != number]
            self.assertIs(book.spare(number), other in part_around(others, one))
        for one in self.PEGS:
            for other in self.PEGS:
                self.check_pair(book, expected, stand, one, other)

    def check_pair(self, book, expected, stand, one, other):
        part = part_around(expected, one)
        if other in part:
            check_way(self, book.way(one, other), expected, one, other)
            self.assertEqual(total(book.way(one, other)), book.rise(one, other))
            self.assertEqual(book.rise(one, other), stand.get(other, 0) - stand.get(one, 0))
        else:
            for call in (book.rise, book.way):
                with self.assertRaises(NoWay) as caught:
                    call(one, other)
                self.assertEqual(caught.exception.near, part)

    def test_drawn_by_lot(self):
        for seed in range(40):
            source = random.Random(seed)
            most = source.randint(0, 9)
            book, expected, taken = Book(most), [], 0
            for turn in range(25):
                if source.random() < 0.3:
                    number = source.randint(0, taken + 1)
                    found = [row for row in expected if row[0] == number]
                    if found:
                        self.assertEqual(book.drop(number), found[0][1:])
                        expected.remove(found[0])
                    else:
                        self.assertRaises(NoNumber, book.drop, number)
                else:
                    sighting = (source.choice(self.PEGS), source.choice(self.PEGS), source.randint(-1, 1))
                    taken = self.check_take(book, sighting, expected, taken, most)
                self.check_answers(book, expected)


def book_way(rows, sighting):
    """A way along rows by trying all ways, in another manner than the program."""
    tried = [(sighting[0], [])]
    while tried:
        peg, steps = tried.pop()
        if peg == sighting[1]:
            return steps
        gone = {sighting[0]} | {step[2] for step in steps}
        for number, one, other, rise in rows:
            for step in ((number, one, other, rise), (number, other, one, 0 - rise)):
                if step[1] == peg and step[2] not in gone:
                    tried.append((step[2], steps + [step]))
    return None


class Refusals(unittest.TestCase):
    def test_all_are_peg_errors(self):
        book = book_of([("a", "b", 1)], 1)
        asked = ((book.take, ("a", "", 1)), (book.take, ("a", "b", 1)), (book.drop, (2,)), (book.spare, (2,)),
                 (book.rise, ("a", "c")), (book.way, ("a", "c")))
        for call, handed in asked:
            self.assertRaises(PegError, call, *handed)


if __name__ == "__main__":
    unittest.main()
