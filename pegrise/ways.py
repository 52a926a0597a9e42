"""Ways along rows, their totals, and the part of a peg."""

from pegrise.sightings import turned


def total(steps):
    return sum([step[3] for step in steps])


def way_along(rows, one, other):
    last = last_steps(rows, one)
    if other not in last:
        return None
    steps = []
    peg = other
    while peg != one:
        steps.append(last[peg])
        peg = last[peg][1]
    # Gathered from the far end, since each peg knows only the step that leads to it.
    steps.reverse()
    return steps


def part_of(rows, one):
    return sorted(list(last_steps(rows, one)))


def pegs_of(rows):
    return sorted(set([row[1] for row in rows] + [row[2] for row in rows]))


def last_steps(rows, one):
    leaving = steps_by_peg(rows)
    # No step leads to the first peg; it stands here so that none is taken back to it.
    last = {one: None}
    pegs = [one]
    place = 0
    # The nearest pegs come first, so that the ways are as short as can be.
    while place < len(pegs):
        for step in leaving.get(pegs[place], []):
            if step[2] not in last:
                last[step[2]] = step
                pegs.append(step[2])
        place += 1
    return last


def steps_by_peg(rows):
    leaving = {}
    for row in rows:
        for step in (row, turned_row(row)):
            leaving.setdefault(step[1], []).append(step)
    return leaving


def turned_row(row):
    return (row[0],) + turned(row[1:])
