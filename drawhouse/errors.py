"""The refusals of the program, each with what it was made with."""


class HouseError(ValueError):
    pass


class NoExpr(HouseError):
    pass


class TooWide(HouseError):
    pass


class NoText(HouseError):
    def __init__(self, at):
        HouseError.__init__(self, f"not written so, at {at}")
        self.at = at


class TooMany(HouseError):
    def __init__(self, at):
        HouseError.__init__(self, f"one too many, at {at}")
        self.at = at


class Twice(HouseError):
    def __init__(self, at):
        HouseError.__init__(self, f"a name is bound twice, at {at}")
        self.at = at


class Double(HouseError):
    def __init__(self, at):
        HouseError.__init__(self, f"an address stands twice, at {at}")
        self.at = at


class Orphan(HouseError):
    def __init__(self, at):
        HouseError.__init__(self, f"the parent isn't there, at {at}")
        self.at = at


class Clash(HouseError):
    def __init__(self, at):
        HouseError.__init__(self, f"a name is that of a part beneath, at {at}")
        self.at = at


class NoRow(HouseError):
    def __init__(self, at):
        HouseError.__init__(self, f"no row of a desk, at {at}")
        self.at = at


class NoPart(HouseError):
    def __init__(self, address):
        HouseError.__init__(self, f"no part {address}")
        self.address = address


class NoDrop(HouseError):
    def __init__(self, address):
        HouseError.__init__(self, f"parts stand beneath {address}")
        self.address = address


class NoName(HouseError):
    def __init__(self, name):
        HouseError.__init__(self, f"no name {name}")
        self.name = name


class Fault(HouseError):
    def __init__(self, word, trail, whose, name):
        HouseError.__init__(self, f"{word}: {whose} {name}")
        self.word = word
        # A list of its own, as whoever hands the trail in may go on changing it.
        self.trail = list(trail)
        self.whose = whose
        self.name = name
