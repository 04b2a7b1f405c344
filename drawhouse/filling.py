"""How parts are filled: steps, expressions and rows, with their events and their faults."""

from drawhouse.errors import Fault
from drawhouse.exprs import show_expr
from drawhouse.rows import Deed, Draw, Late, Take
from drawhouse.values import kind_of
from drawhouse.words import parent_of, prefixes

# Rows are gone through by a stand: whatever has a house, draw_step, read_step, trail_now and note.


def path_end(stand, address, path):
    """What a path comes to, and the part and the name that were read last for it."""
    value = ("part", address)
    whose = address
    name = ""
    for step in path:
        if kind_of(value) != "part":
            raise Fault("nopart", stand.trail_now(), whose, name)
        whose = value[1]
        name = step
        value = stand.read_step(whose, name)
    return (value, whose, name)


def call_deed(stand, deed):
    address = deed[1]
    name = deed[2]
    stand.note(("call", address, name))
    part = stand.house.part(address)
    value = come_to(stand, address, part.rows[part.place_of(name)].terms)
    stand.note(("back", value))
    return value


def term_end(stand, address, term):
    """What a term comes to, and the part and the name that were read last for its own path."""
    kind = term[1]
    thing = term[2]
    if kind == "number":
        return (thing, "", "")
    value, whose, name = path_end(stand, address, thing)
    if kind == "path":
        return (value, whose, name)
    if kind_of(value) != "deed":
        raise Fault("nodeed", stand.trail_now(), whose, name)
    return (call_deed(stand, value), whose, name)


def come_to(stand, address, terms):
    # One term by itself may come to any kind of value; only what is added has to be a number.
    if len(terms) == 1:
        return term_end(stand, address, terms[0])[0]
    total = 0
    for term in terms:
        value, whose, name = term_end(stand, address, term)
        if kind_of(value) != "number":
            raise Fault("nonumber", stand.trail_now(), whose, name)
        total += term[0] * value
    return total


def looked_at(stand, value):
    # Who looks at a late hold is the one who draws it, and sees the part.
    if kind_of(value) != "late":
        return value
    stand.draw_step(value[1])
    return ("part", value[1])


def taken(stand, row):
    stand.draw_step(row.address)
    beneath = row.address + "." + row.word
    if stand.house.has(beneath):
        stand.draw_step(beneath)
        return ("part", beneath)
    return stand.read_step(row.address, row.word)


def row_value(stand, address, row):
    """What a row of the part of that address comes to."""
    if isinstance(row, Deed):
        return ("deed", address, row.name, show_expr(row.terms))
    if isinstance(row, Late):
        return ("late", row.address)
    if isinstance(row, Draw):
        stand.draw_step(row.address)
        return ("part", row.address)
    if isinstance(row, Take):
        return taken(stand, row)
    return come_to(stand, address, row.terms)


class Filling:
    """What stands on a shelf, and one draw that goes on from there.

    Where a step is refused, all is left as it was at the fault: whoever wants to go on has kept a copy from ahead of
    the draw.
    """

    def __init__(self, house):
        self.house = house
        # Of each part on the shelf the names that are bound, and the parts that it has touched.
        self.held = {}
        self.reach = {}
        self.ended = []
        self.begun = []
        self.events = []

    def copied(self):
        """Another one that stands as this one, when no draw goes on, and has no events as yet."""
        other = Filling(self.house)
        for address in self.ended:
            other.held[address] = dict(self.held[address])
            other.reach[address] = dict(self.reach[address])
        other.ended = list(self.ended)
        return other

    def log(self):
        return list(self.events)

    def filled(self):
        return list(self.ended)

    def names(self, address):
        # Names come in the order of the rows, as rows are gone through in it.
        return list(self.held[address].items())

    def touched(self, address):
        return sorted(self.reach[address])

    def trail_now(self):
        return list(self.begun)

    def note(self, event):
        self.events.append(event)

    def touch(self, address):
        # The part that began last is the one whose row goes there, also by a deed of another part.
        if len(self.begun) > 0 and self.begun[-1][0] != address:
            self.reach[self.begun[-1][0]][address] = True

    def draw_step(self, address):
        for prefix in prefixes(address):
            if not self.house.has(prefix):
                raise Fault("unknown", self.trail_now(), prefix, "")
            self.touch(prefix)
            if prefix in self.held:
                self.note(("there", prefix))
            else:
                self.fill_part(prefix)

    def fill_part(self, address):
        self.note(("begin", address))
        self.held[address] = {}
        # The parent is touched even where no step of the rows goes there.
        self.reach[address] = {} if parent_of(address) == "" else {parent_of(address): True}
        self.begun.append((address, 0))
        for at, row in enumerate(self.house.part(address).rows):
            self.begun[-1] = (address, at)
            self.note(("row", address, at))
            self.bind(address, row.binds(), row_value(self, address, row))
        self.begun.pop()
        self.ended.append(address)
        self.note(("end", address))

    def read_step(self, address, name):
        self.touch(address)
        if name not in self.held[address]:
            unfilled = name in self.house.part(address).bound()
            raise Fault("unfilled" if unfilled else "missing", self.trail_now(), address, name)
        value = self.held[address][name]
        self.note(("see", address, name, value))
        return looked_at(self, value)

    def bind(self, address, name, value):
        # A need binds no name: its expression is only evaluated.
        if name != "":
            self.held[address][name] = value
            self.note(("bind", address, name, value))
