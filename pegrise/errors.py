"""The refusals of the program, a class for each."""


class PegError(ValueError):
    pass


class NoSighting(PegError):
    pass


class Full(PegError):
    pass


class Against(PegError):
    def __init__(self, trail):
        # Without words of its own the error would keep the very list that was handed in as its argument.
        PegError.__init__(self, "the kept sightings tell another rise")
        self.trail = list(trail)


class NoNumber(PegError):
    pass


class NoWay(PegError):
    def __init__(self, near):
        # Words of its own for the same reason as in Against.
        PegError.__init__(self, "no way leads there")
        self.near = list(near)


class NoText(PegError):
    pass
