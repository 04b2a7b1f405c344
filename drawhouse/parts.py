"""A part: its address and its rows."""


class Part:
    def __init__(self, address, rows):
        self.address = address
        # A list of its own, as whoever hands the rows in may go on changing them.
        self.rows = list(rows)

    def bound(self):
        names = [row.binds() for row in self.rows]
        # A need binds no name, which a row tells as the text without signs.
        return [name for name in names if name != ""]

    def place_of(self, name):
        # No name at all is what a need tells, and no row binds that.
        if name == "":
            return None
        for at, row in enumerate(self.rows):
            if row.binds() == name:
                return at
        return None

    def text(self):
        return "\n".join(["part " + self.address] + [row.said() for row in self.rows])
