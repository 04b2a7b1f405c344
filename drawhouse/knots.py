"""The knots of a house: parts that lead to one another."""

from drawhouse.links import all_links, reached


def knot_of(led, address):
    return [one for one in led if one == address or (one in led[address] and address in led[one])]


def may_come(linked, knot, placed):
    for address in knot:
        for one in linked[address]:
            if one not in knot and one not in placed:
                return False
    return True


def in_order(linked, left):
    told = []
    placed = {}
    while len(left) > 0:
        # The least one first: what is left is sorted by its first addresses.
        free = [knot for knot in left if may_come(linked, knot, placed)][0]
        left = [knot for knot in left if knot != free]
        told.append(free)
        for address in free:
            placed[address] = True
    return told


def knots(house):
    linked = all_links(house)
    led = {}
    for address in linked:
        led[address] = reached(linked, address)
    # Each part would tell its knot: that of its first part is enough.
    firsts = [address for address in led if knot_of(led, address)[0] == address]
    return in_order(linked, [knot_of(led, address) for address in firsts])
