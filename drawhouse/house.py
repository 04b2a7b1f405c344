"""A house: its parts, none of them twice, each beneath its parent."""

from drawhouse.errors import Clash, Double, NoDrop, NoPart, Orphan, TooMany
from drawhouse.words import parent_of

MOST_PARTS = 12


def is_orphan(part, addresses):
    parent = parent_of(part.address)
    return parent != "" and parent not in addresses


def is_clash(part, addresses):
    return any([part.address + "." + name in addresses for name in part.bound()])


def check_parts(parts):
    # All of them, as a parent or a part beneath may stand behind, and beyond the twelfth too.
    addresses = [part.address for part in parts]
    for at, part in enumerate(parts):
        if at >= MOST_PARTS:
            raise TooMany(at)
        if part.address in addresses[:at]:
            raise Double(at)
        if is_orphan(part, addresses):
            raise Orphan(at)
        if is_clash(part, addresses):
            raise Clash(at)


class House:
    def __init__(self, parts):
        check_parts(parts)
        # A list of its own, as whoever hands the parts in may go on changing it.
        self.told = list(parts)

    def addresses(self):
        return sorted([part.address for part in self.told])

    def has(self, address):
        return any([part.address == address for part in self.told])

    def part(self, address):
        for part in self.told:
            if part.address == address:
                return part
        raise NoPart(address)

    def with_part(self, part):
        if not self.has(part.address):
            return House(self.told + [part])
        return House([part if one.address == part.address else one for one in self.told])

    def without(self, address):
        if not self.has(address):
            raise NoPart(address)
        if any([parent_of(one.address) == address for one in self.told]):
            raise NoDrop(address)
        return House([one for one in self.told if one.address != address])
