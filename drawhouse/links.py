"""Who links to whom in a house, who leads where, and by which way."""

from drawhouse.errors import NoPart
from drawhouse.rows import Take
from drawhouse.words import parent_of, prefixes


def named_by(row):
    named = []
    for address in row.asked():
        named.extend(prefixes(address))
        # A take may be of a part beneath, and then draws that one too.
        if isinstance(row, Take):
            named.append(address + "." + row.word)
    return named


def links(house, address):
    part = house.part(address)
    named = [parent_of(address)]
    for row in part.rows:
        named.extend(named_by(row))
    return [one for one in house.addresses() if one in named]


def all_links(house):
    linked = {}
    for address in house.addresses():
        linked[address] = links(house, address)
    return linked


def reached(linked, address):
    ahead = list(linked[address])
    found = {}
    while len(ahead) > 0:
        one = ahead.pop()
        if one not in found:
            found[one] = True
            ahead.extend(linked[one])
    return sorted(found)


def check_part(house, address):
    if not house.has(address):
        raise NoPart(address)


def leads(house, address):
    check_part(house, address)
    return reached(all_links(house), address)


def way_between(house, one, other):
    check_part(house, one)
    check_part(house, other)
    linked = all_links(house)
    ways = [[one]]
    seen = {one: True}
    while len(ways) > 0:
        # The shortest ways first, so that a part is come to but once.
        way = ways.pop(0)
        for address in linked[way[-1]]:
            if address == other:
                return way + [address]
            if address not in seen:
                seen[address] = True
                ways.append(way + [address])
    return None
