"""What the names of a house mean on demand, found without drawing anything."""

from drawhouse.errors import Fault
from drawhouse.filling import looked_at, row_value
from drawhouse.words import prefixes


class Waits(Exception):
    """No refusal: a row that reads a name without a meaning goes no further."""

    def __init__(self, address, name):
        Exception.__init__(self, f"waits for {name} of {address}")
        self.address = address
        self.name = name


class Demand:
    """The meanings found by now, as a stand for rows: nothing is drawn, nothing noted, no part is filling."""

    def __init__(self, house):
        self.house = house
        self.meanings = {}

    def trail_now(self):
        return []

    def note(self, event):
        pass

    def draw_step(self, address):
        for prefix in prefixes(address):
            if not self.house.has(prefix):
                raise Fault("unknown", self.trail_now(), prefix, "")

    def read_step(self, address, name):
        if self.house.part(address).place_of(name) is None:
            raise Fault("missing", self.trail_now(), address, name)
        if (address, name) not in self.meanings:
            raise Waits(address, name)
        return looked_at(self, self.meanings[(address, name)])


def told_of(demand, address, row):
    try:
        value = row_value(demand, address, row)
    except Waits as waits:
        return ("waits", waits.address, waits.name)
    except Fault as fault:
        return ("fault", fault.word, fault.whose, fault.name)
    return ("is", value)


def may_change(demand, well):
    # A fault stays, whatever further names come to mean: all that was read ahead of it has its meaning.
    return well[0] == "waits" and (well[1], well[2]) in demand.meanings


def binding_rows(house):
    told = []
    for address in house.addresses():
        told.extend([(address, row) for row in house.part(address).rows if row.binds() != ""])
    return told


def wells(house):
    demand = Demand(house)
    rows = binding_rows(house)
    told = {}
    more = True
    while more:
        more = False
        for address, row in rows:
            key = (address, row.binds())
            if key not in told or may_change(demand, told[key]):
                told[key] = told_of(demand, address, row)
                if told[key][0] == "is":
                    demand.meanings[key] = told[key][1]
                    more = True
    return told
