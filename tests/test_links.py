"""Points 21 and 22: who links to whom, who leads where, and ways; point 20 of them; points 2 to 5 of them."""

import itertools
import unittest

from drawhouse.errors import Clash, HouseError, NoDrop, NoPart, Orphan, TooMany
from drawhouse.house import House
from drawhouse.links import leads, links, way_between
from drawhouse.parts import Part
from drawhouse.reader import read_part
from drawhouse.rows import Draw, Late, Take
from telling import ADDRESSES, Chance, house_of, up_to

TWELVE = "abcdefghijkl"


def graph(arrows, addresses):
    """A house in which each address draws those that arrows tell of it."""
    parts = []
    for address in addresses:
        rows = [Draw(other, "xyzuvw"[at]) for at, other in enumerate(arrows.get(address, []))]
        parts.append(Part(address, rows))
    return House(parts)


def ring(many):
    return [f"part {one}\ndraw {other} as x" for one, other in zip(TWELVE, TWELVE[1:many] + TWELVE[0])]


def line(many):
    """The ring with one link less: the last part draws nobody."""
    return ring(many)[:-1] + [f"part {TWELVE[many - 1]}"]


def linked(texts):
    """What point 21 asks of each part, from the texts."""
    known = {text.split("\n")[0].split(" ")[1]: text.split("\n")[1:] for text in texts}
    told = {}
    for address, rows in known.items():
        named = {".".join(address.split(".")[:-1])}
        for words in [row.split(" ") for row in rows]:
            if words[0] in ("draw", "late"):
                named |= set(up_to(words[1]))
            elif words[0] == "take":
                named |= set(up_to(words[3])) | {f"{words[3]}.{words[1]}"}
        told[address] = sorted(named & set(known))
    return told


def led(linked):
    """What point 22 asks of each part: a link, or a link to one that leads there, grown until nothing comes to it."""
    told = {one: set(others) for one, others in linked.items()}
    while True:
        grown = {one: others | {far for other in others for far in told[other]} for one, others in told.items()}
        if grown == told:
            return {one: sorted(others) for one, others in told.items()}
        told = grown


class Asking(unittest.TestCase):
    def assert_refused(self, address, ask, *asked):
        with self.assertRaises(NoPart) as taken:
            ask(*asked)
        self.assertIs(type(taken.exception), NoPart)
        self.assertIsInstance(taken.exception, HouseError)
        self.assertEqual(taken.exception.address, address)

    def assert_way(self, house, way, one, other):
        self.assertIs(type(way), list)
        self.assertGreaterEqual(len(way), 2)
        self.assertEqual((way[0], way[-1]), (one, other))
        for first, second in zip(way, way[1:]):
            self.assertIn(second, links(house, first))
        self.assertEqual(len(set(way[1:])), len(way) - 1)
        self.assertNotIn(one, way[1:-1])

    def check(self, texts):
        house = house_of(*texts)
        direct = linked(texts)
        far = led(direct)
        for one in house.addresses():
            self.assertEqual(links(house, one), direct[one], texts)
            self.assertEqual(leads(house, one), far[one], texts)
            for other in house.addresses():
                way = way_between(house, one, other)
                if other in far[one]:
                    self.assert_way(house, way, one, other)
                else:
                    self.assertIsNone(way, texts)


class Links(Asking):
    def test_the_parent(self):
        house = house_of("part a.b.c", "part a.b", "part a", "part b")
        told = [links(house, address) for address in ("a", "a.b", "a.b.c", "b")]
        self.assertEqual(told, [[], ["a"], ["a.b"], []])

    def test_the_prefixes_of_what_rows_name(self):
        for row in ("draw a.b.c as x", "late a.b.c as x", "take w from a.b.c as x"):
            house = house_of("part z\n" + row, "part a.b.c", "part a.b", "part a")
            self.assertEqual(links(house, "z"), ["a", "a.b", "a.b.c"])

    def test_a_take_of_a_part(self):
        texts = ["part a", "part a.b", "part b", "part a.b.c"]
        for row, told in (
            ("take b from a as x", ["a", "a.b"]), ("take c from a.b as x", ["a", "a.b", "a.b.c"]),
            ("take c from a as x", ["a"]), ("take a from b as x", ["b"]),
            ("take d from a.b.c as x", ["a", "a.b", "a.b.c"]),
        ):
            self.assertEqual(links(house_of("part z\n" + row, *texts), "z"), told)

    def test_a_draw_or_a_late_row_finds_no_part_beneath(self):
        house = house_of("part z\ndraw a as b\nlate a as c", "part a", "part a.b", "part a.c")
        self.assertEqual(links(house, "z"), ["a"])

    def test_the_name_of_a_take_is_no_word(self):
        house = house_of("part z\ntake w from a as b", "part a", "part a.b")
        self.assertEqual(links(house, "z"), ["a"])

    def test_itself(self):
        for row in ("draw a as x", "late a as x", "take w from a as x", "draw a.b as x", "draw a.z as x"):
            house = house_of("part a\n" + row, "part a.b", "part b")
            self.assertIn("a", links(house, "a"))
            self.assertNotIn("b", links(house, "a"))
        house = house_of("part a\nlate a.b.c as x", "part a.b", "part a.b.c")
        self.assertEqual(links(house, "a"), ["a", "a.b", "a.b.c"])
        self.assertEqual(links(house_of("part a", "part a.b\ndraw a.b as x"), "a.b"), ["a", "a.b"])

    def test_what_is_not_there_is_left_out_but_not_its_prefixes(self):
        rows = "draw a.z as z\ndraw y as y\nlate a.b.x as x\ntake w from y.z as w"
        house = house_of("part p\n" + rows, "part a", "part a.b")
        self.assertEqual(links(house, "p"), ["a", "a.b"])
        self.assertEqual(links(house_of("part p\ndraw y.z as z\ntake w from y as w"), "p"), [])

    def test_rows_that_name_no_address(self):
        house = house_of("part a\nlet b be c\ndeed c be b\nneed b", "part b", "part c")
        self.assertEqual(links(house, "a"), [])

    def test_once_however_often_named(self):
        house = house_of("part a.b\ndraw a as x\nlate a as y\ntake c from a as z\ndraw a.c as u", "part a", "part a.c")
        self.assertEqual(links(house, "a.b"), ["a", "a.c"])

    def test_a_row_far_down(self):
        rows = "\n".join([f"let {name} be 1" for name in TWELVE[:11]])
        self.assertEqual(links(house_of(f"part a\n{rows}\nlate b as l", "part b"), "a"), ["b"])

    def test_sorted_as_texts_are(self):
        rows = ["part p", "draw b as x", "draw ab as y", "draw a.c as z", "draw a as u"]
        house = house_of("\n".join(rows), "part b", "part ab", "part a.c", "part a")
        self.assertEqual(links(house, "p"), ["a", "a.c", "ab", "b"])

    def test_made_rows(self):
        house = House([Part("p", [Draw("a.z", "z"), Late("b", "l"), Take("b", "a", "t")])] + house_of(
            "part a", "part a.b", "part b", "part c").told)
        self.assertEqual(links(house, "p"), ["a", "a.b", "b"])

    def test_no_such_part(self):
        house = house_of("part a\ndraw z as z", "part a.b")
        for address in ("z", "b", "a.c", "a.b.c", "aa", ""):
            self.assert_refused(address, links, house, address)
        self.assert_refused("a", links, House([]), "a")


class Leads(Asking):
    def test_by_one_link_and_by_more(self):
        house = graph({"a": "b", "b": "c", "c": "d", "e": "a"}, "edcba")
        told = [leads(house, address) for address in "abcde"]
        self.assertEqual(told, [["b", "c", "d"], ["c", "d"], ["d"], [], ["a", "b", "c", "d"]])

    def test_to_itself(self):
        self.assertEqual(leads(graph({}, "a"), "a"), [])
        self.assertEqual(leads(graph({"a": "a"}, "a"), "a"), ["a"])
        self.assertEqual(leads(graph({"a": "b", "b": "a"}, "ab"), "a"), ["a", "b"])
        self.assertEqual(leads(graph({"a": "b", "b": "b"}, "ab"), "a"), ["b"])

    def test_parents_count(self):
        house = house_of("part a\ndraw b as x", "part b", "part a.b", "part c\nlate a.b as x")
        self.assertEqual(leads(house, "c"), ["a", "a.b", "b"])

    def test_a_ring_of_twelve_and_one_link_less(self):
        for address in TWELVE:
            self.assertEqual(leads(house_of(*ring(12)), address), list(TWELVE))
            self.assertEqual(leads(house_of(*line(12)), address), [one for one in TWELVE if one > address])

    def test_no_such_part(self):
        house = house_of("part a\ndraw z as z", "part a.b")
        for address in ("z", "b", "a.c", ""):
            self.assert_refused(address, leads, house, address)
        self.assert_refused("a", leads, House([]), "a")


class Ways(Asking):
    def test_the_one_way(self):
        house = graph({"a": "b", "b": "c", "c": "d"}, "dbac")
        self.assertEqual(way_between(house, "a", "d"), ["a", "b", "c", "d"])
        self.assertEqual(way_between(house, "b", "c"), ["b", "c"])
        self.assertIsNone(way_between(house, "d", "a"))
        self.assertIsNone(way_between(house, "a", "a"))

    def test_back_to_itself(self):
        self.assertEqual(way_between(graph({"a": "a"}, "a"), "a", "a"), ["a", "a"])
        house = graph({"a": "b", "b": "c", "c": "ad"}, "abcd")
        self.assertEqual(way_between(house, "a", "a"), ["a", "b", "c", "a"])
        self.assertEqual(way_between(house, "c", "c"), ["c", "a", "b", "c"])
        self.assertIsNone(way_between(house, "d", "d"))

    def test_none_comes_twice_where_a_part_draws_itself(self):
        house = graph({"a": "ab", "b": "abc", "c": "c"}, "abc")
        self.assertEqual(way_between(house, "a", "c"), ["a", "b", "c"])
        self.assert_way(house, way_between(house, "b", "b"), "b", "b")

    def test_a_ring_of_twelve_and_one_link_less(self):
        self.assertEqual(way_between(house_of(*ring(12)), "b", "a"), list(TWELVE[1:] + "a"))
        self.assertEqual(way_between(house_of(*ring(12)), "a", "a"), list(TWELVE + "a"))
        self.assertEqual(way_between(house_of(*line(12)), "a", "l"), list(TWELVE))
        self.assertIsNone(way_between(house_of(*line(12)), "b", "a"))

    def test_no_such_part(self):
        house = house_of("part a", "part b\ndraw a as a")
        self.assert_refused("z", way_between, house, "z", "a")
        self.assert_refused("z", way_between, house, "a", "z")
        self.assert_refused("z", way_between, house, "z", "z")

    def test_of_two_unknown_ones_the_first(self):
        house = house_of("part a")
        self.assert_refused("z", way_between, house, "z", "y")
        self.assert_refused("y", way_between, house, "y", "z")
        self.assert_refused("a", way_between, House([]), "a", "b")

    def test_the_names_of_the_arguments(self):
        house = house_of("part a\ndraw b as b", "part b")
        self.assertEqual(way_between(house=house, one="a", other="b"), ["a", "b"])
        self.assertEqual(links(house=house, address="a"), leads(house=house, address="a"))


class AgainstASecondTelling(Asking):
    def test_all_houses_of_three_parts(self):
        arrows = list(itertools.product("abc", "abc"))
        for many in range(len(arrows) + 1):
            for some in itertools.combinations(arrows, many):
                rows = {one: [f"draw {other} as {other}" for first, other in some if first == one] for one in "abc"}
                self.check(["\n".join([f"part {one}"] + rows[one]) for one in "abc"])

    def test_houses_by_chance(self):
        for seed in range(300):
            self.check(Chance(seed).texts())

    def test_each_address_named_in_each_way(self):
        for address in ADDRESSES + ["z", "z.y", "a.z", "a.b.z", "c.d.e"]:
            for row in (f"draw {address} as x", f"late {address} as x", f"take b from {address} as x",
                        f"take c from {address} as x", f"take d from {address} as x"):
                for own in ("e", "a", "a.b", "a.b.c"):
                    texts = [f"part {one}" + (f"\n{row}" if one == own else "") for one in ADDRESSES]
                    self.assertEqual(links(house_of(*texts), own), linked(texts)[own], (own, row))

    def test_in_whichever_order_parts_are_told(self):
        for seed in range(60):
            texts = Chance(seed).texts()
            one, other = house_of(*texts), house_of(*reversed(texts))
            for address in one.addresses():
                self.assertEqual(links(one, address), links(other, address))
                self.assertEqual(leads(one, address), leads(other, address))


class WithAndWithout(Asking):
    TEXTS = ["part p\ndraw a.b as x", "part a\nlet y be 1", "part b\ndraw p as p"]

    def told(self, house):
        return {address: (links(house, address), leads(house, address)) for address in house.addresses()}

    def test_a_part_more(self):
        house = house_of(*self.TEXTS)
        before = self.told(house)
        self.assertEqual(before, {"p": (["a"], ["a"]), "a": ([], []), "b": (["p"], ["a", "p"])})
        other = house.with_part(read_part("part a.b\nlate b as b"))
        self.assertEqual(self.told(other), {
            "p": (["a", "a.b"], ["a", "a.b", "b", "p"]), "a": ([], []), "b": (["p"], ["a", "a.b", "b", "p"]),
            "a.b": (["a", "b"], ["a", "a.b", "b", "p"]),
        })
        self.assertEqual(way_between(other, "p", "p"), ["p", "a.b", "b", "p"])
        self.assertEqual(self.told(house), before)
        self.assertIsNone(way_between(house, "p", "p"))
        self.assert_refused("a.b", links, house, "a.b")

    def test_a_part_told_otherwise(self):
        house = house_of(*self.TEXTS)
        before = self.told(house)
        other = house.with_part(read_part("part p\ntake a from b as x"))
        self.assertEqual((links(other, "p"), leads(other, "p"), leads(other, "b")), (["b"], ["b", "p"], ["b", "p"]))
        self.assertEqual(self.told(house), before)

    def test_a_part_less(self):
        house = house_of(*self.TEXTS)
        before = self.told(house)
        other = house.without("p")
        self.assertEqual(self.told(other), {"a": ([], []), "b": ([], [])})
        self.assert_refused("p", leads, other, "p")
        self.assert_refused("p", way_between, other, "b", "p")
        self.assertEqual(self.told(house.without("a")), {"p": ([], []), "b": (["p"], ["p"])})
        self.assertEqual(self.told(house), before)

    def test_what_is_refused_changes_nothing(self):
        house = house_of(*self.TEXTS, "part b.c", *[f"part q{one}" for one in "abcdefgh"])
        before = self.told(house)
        self.assertEqual(len(before), 12)
        for ask, kind, field, told in (
            (lambda: house.with_part(read_part("part z")), TooMany, "at", 12),
            (lambda: house.without("qa").with_part(read_part("part z.y")), Orphan, "at", 11),
            (lambda: house.with_part(read_part("part b\nlate p as c")), Clash, "at", 2),
            (lambda: house.without("qa").with_part(read_part("part a.y")), Clash, "at", 1),
            (lambda: house.without("b"), NoDrop, "address", "b"),
            (lambda: house.without("z"), NoPart, "address", "z"),
        ):
            with self.assertRaises(kind) as taken:
                ask()
            self.assertIs(type(taken.exception), kind)
            self.assertEqual(getattr(taken.exception, field), told)
            self.assertEqual(self.told(house), before)


class ListsOfTheirOwn(Asking):
    def test_a_told_list_may_be_changed(self):
        house = house_of("part a\ndraw b as b", "part b\ndraw a as a\ndraw c as c", "part c")
        for ask in (lambda: links(house, "b"), lambda: leads(house, "a"), lambda: way_between(house, "a", "c")):
            first, second = ask(), ask()
            kept = list(first)
            self.assertIs(type(first), list)
            self.assertIsNot(first, second)
            first.append("z")
            first[0] = "y"
            self.assertEqual((second, ask()), (kept, kept))
            first.clear()
            self.assertEqual(ask(), kept)

    def test_nothing_handed_in_is_changed(self):
        house = house_of("part a\ndraw b as b", "part b\ndraw a as a")
        told = list(house.told)
        rows = [list(part.rows) for part in told]
        links(house, "a")
        leads(house, "a")
        way_between(house, "a", "b")
        self.assertEqual(house.told, told)
        self.assertEqual([part.rows for part in told], rows)

    def test_what_was_handed_to_the_house_may_be_changed_behind(self):
        rows = [Draw("b", "b")]
        parts = [Part("a", rows), Part("b", [])]
        house = House(parts)
        rows.append(Draw("a", "a"))
        rows[0] = Draw("a", "c")
        parts.clear()
        self.assertEqual((links(house, "a"), leads(house, "a")), (["b"], ["b"]))


if __name__ == "__main__":
    unittest.main()
