"""Pegs and sightings: what they are, and a sighting turned about."""


def is_peg(thing):
    if not isinstance(thing, str):
        return False
    # By its place between a and z, since islower and isalpha take letters of other alphabets too.
    return 1 <= len(thing) <= 8 and all(["a" <= sign <= "z" for sign in thing])


def is_whole(thing):
    # Python counts True and False among its ints.
    return isinstance(thing, int) and not isinstance(thing, bool)


def is_rise(thing):
    # Held against a power, since Python refuses to write out numbers of very many figures.
    return is_whole(thing) and abs(thing) < 10 ** 60


def is_sighting(thing):
    if not isinstance(thing, tuple) or len(thing) != 3:
        return False
    return is_peg(thing[0]) and is_peg(thing[1]) and is_rise(thing[2])


def turned(sighting):
    return (sighting[1], sighting[0], 0 - sighting[2])
