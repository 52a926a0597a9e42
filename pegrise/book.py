"""The book: it keeps sightings that agree with one another, and tells rises from them."""

from pegrise.errors import Against, Full, NoNumber, NoSighting, NoWay
from pegrise.sightings import is_peg, is_sighting, is_whole
from pegrise.ways import part_of, pegs_of, total, way_along


class Book:
    def __init__(self, most=200):
        self.most = most
        # Counted by itself, since the rows forget what was dropped.
        self.taken = 0
        # By number; numbers only rise, so the rows stand in their order.
        self.rows = {}

    def take(self, one, other, rise):
        if not is_sighting((one, other, rise)):
            raise NoSighting("two pegs and a whole number of at most sixty figures are asked for")
        if len(self.rows) >= self.most:
            raise Full("the book keeps as many sightings as it may")
        steps = way_along(self.kept(), one, other)
        if steps is not None and total(steps) != rise:
            raise Against(steps)
        self.taken += 1
        self.rows[self.taken] = (self.taken, one, other, rise)
        return self.taken

    def drop(self, number):
        row = self.row_at(number)
        self.rows.pop(number)
        return row[1:]

    def rise(self, one, other):
        return total(self.way(one, other))

    def way(self, one, other):
        if not is_peg(one) or not is_peg(other):
            raise NoSighting("two pegs are asked for")
        rows = self.kept()
        steps = way_along(rows, one, other)
        if steps is None:
            raise NoWay(part_of(rows, one))
        return steps

    def parts(self):
        rows = self.kept()
        found = []
        seen = {}
        # The pegs come sorted, so each part is met at its first peg, and the parts come sorted too.
        for first in pegs_of(rows):
            if first not in seen:
                part = part_of(rows, first)
                found.append(part)
                for peg in part:
                    seen[peg] = True
        return found

    def heights(self):
        told = []
        for part in self.parts():
            told.extend([(peg, self.rise(part[0], peg)) for peg in part])
        return sorted(told)

    def spare(self, number):
        row = self.row_at(number)
        others = [each for each in self.kept() if each[0] != number]
        return way_along(others, row[1], row[2]) is not None

    def kept(self):
        return list(self.rows.values())

    def row_at(self, number):
        # The kind comes first: True would be found under 1, and a list can't be looked up at all.
        if not is_whole(number) or number not in self.rows:
            raise NoNumber("no kept sighting has this number")
        return self.rows[number]
