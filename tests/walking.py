"""What the tests of ways, books and texts share: ways walked step by step, and parts found in another manner."""

from pegrise.book import Book
from pegrise.errors import Against, Full, NoNumber, NoSighting, NoText, NoWay, PegError

KINDS = (NoSighting, Full, Against, NoNumber, NoWay, NoText)
GREATEST = 10 ** 60 - 1


def book_of(sightings, most=200):
    book = Book(most)
    for sighting in sightings:
        book.take(*sighting)
    return book


def other_kinds():
    """Things that are no pegs, no whole numbers and no texts."""
    return [None, True, False, 1.0, 0.5, 1j, b"a", object(), len, str, [], ["a"], [1], (), ("a",), (1,), {}, {"a": 1},
            {1: "a"}, set(), {1}, frozenset("a"), range(3), [[]], ([],), ("a", "b", 1), Exception("a")]


def no_pegs():
    return ["", "abcdefghi", "A", "Ab", "aB", "a ", " a", "a b", "a\n", "\na", "a1", "1", "a-b", "\u00e9", "\u0430",
            "\uff41", 0, 1, -1, 10 ** 4000 - 1] + other_kinds()


def no_rises():
    return [GREATEST + 1, 0 - GREATEST - 1, 10 ** 4000 - 1, "", "0", "1", "a"] + other_kinds()


def turned_row(row):
    return (row[0], row[2], row[1], 0 - row[3])


def check_way(case, steps, rows, one, other):
    """Walks a told way: each step a row or a row turned about, from peg to peg, no peg twice."""
    case.assertIs(type(steps), list)
    steppable = list(rows) + [turned_row(row) for row in rows]
    pegs = [one]
    for step in steps:
        case.assertIs(type(step), tuple)
        case.assertIs(type(step[3]), int)
        case.assertIn(step, steppable)
        case.assertEqual(step[1], pegs[-1])
        pegs.append(step[2])
    case.assertEqual(pegs[-1], other)
    case.assertEqual(len(pegs), len(set(pegs)))


def parts_of(rows):
    """The parts of all pegs of the rows, by merging groups, row by row."""
    groups = []
    for row in rows:
        met = [group for group in groups if row[1] in group or row[2] in group]
        groups = [group for group in groups if group not in met]
        groups.append(set([row[1], row[2]]).union(*met))
    return sorted(sorted(group) for group in groups)


def part_around(rows, peg):
    found = [part for part in parts_of(rows) if peg in part]
    return found[0] if found else [peg]


def pegs_in(rows):
    return sorted({peg for row in rows for peg in row[1:3]})


def refused(case, kind, call, *handed):
    """Takes a refusal by its own class, by PegError and by ValueError, and sees that no fellow takes it."""
    for above in (ValueError, PegError, kind):
        with case.assertRaises(above) as caught:
            call(*handed)
        case.assertIs(type(caught.exception), kind)
    fellows = [fellow for fellow in KINDS if fellow is not kind]
    case.assertEqual(len(fellows), 5)
    for fellow in fellows:
        case.assertNotIsInstance(caught.exception, fellow)
    return caught.exception


def state(book):
    """All that a book tells of itself without a refusal."""
    rows = book.kept()
    spares = [book.spare(row[0]) for row in rows]
    return rows, book.parts(), book.heights(), spares
