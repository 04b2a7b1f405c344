"""Points 19 and 20: houses, with a part, without one; points 2 to 5 of them."""

import itertools
import unittest

from drawhouse.errors import Clash, Double, HouseError, NoDrop, NoPart, Orphan, TooMany
from drawhouse.house import House
from drawhouse.parts import Part
from drawhouse.reader import read_part
from drawhouse.rows import Deed, Draw, Late, Let, Need, Take

ONE = [(1, "number", 1)]


def part(address, *names):
    return Part(address, [Let(name, ONE) for name in names])


def bare(*addresses):
    return [part(address) for address in addresses]


def letters(many):
    return bare(*"abcdefghijklmnopqrst"[:many])


def due(parts):
    """What point 19 asks for a list of parts: None where a house is made, else the refusal's class and place."""
    everywhere = {one.address for one in parts}
    for at, one in enumerate(parts):
        names = one.address.split(".")
        if at == 12:
            return TooMany, at
        if [other.address for other in parts].index(one.address) < at:
            return Double, at
        if len(names) > 1 and ".".join(names[:-1]) not in everywhere:
            return Orphan, at
        if any(f"{one.address}.{name}" in everywhere for name in one.bound()):
            return Clash, at
    return None


class Houses(unittest.TestCase):
    def assert_refused(self, ask, kind, at):
        with self.assertRaises(kind) as taken:
            ask()
        self.assertIs(type(taken.exception), kind)
        self.assertIs(type(taken.exception.at), int)
        self.assertEqual(taken.exception.at, at)

    def assert_no_house(self, parts, kind, at):
        self.assert_refused(lambda: House(parts), kind, at)

    def assert_address_refused(self, ask, kind, address):
        with self.assertRaises(kind) as taken:
            ask(address)
        self.assertIs(type(taken.exception), kind)
        self.assertIsInstance(taken.exception, HouseError)
        self.assertEqual(taken.exception.address, address)

    def assert_told(self, house, parts):
        self.assertIs(type(house), House)
        self.assertEqual(len(house.told), len(parts))
        for one, other in zip(house.told, parts):
            self.assertIs(one, other)

    def check(self, parts):
        asked = due(parts)
        if asked is None:
            self.assert_told(House(parts), parts)
        else:
            self.assert_no_house(parts, *asked)


class Made(Houses):
    def test_what_is_told_is_as_handed_in(self):
        parts = bare("b", "a.c", "a", "c", "a.b", "a.b.a")
        self.assert_told(House(parts), parts)
        self.assertIs(type(House(parts).told), list)

    def test_the_name_of_the_argument(self):
        self.assert_told(House(parts=[]), [])

    def test_addresses_are_sorted(self):
        house = House(bare("b", "a.c", "ab", "a", "c", "a.b", "a.b.a", "abcdefgh"))
        self.assertEqual(house.addresses(), ["a", "a.b", "a.b.a", "a.c", "ab", "abcdefgh", "b", "c"])

    def test_has(self):
        house = House(bare("b", "a.b", "a"))
        for address in ("a", "b", "a.b"):
            self.assertIs(house.has(address), True)
        for address in ("c", "b.a", "a.b.c", "a.a", "ab", ""):
            self.assertIs(house.has(address), False)

    def test_part(self):
        parts = bare("b", "a.b", "a")
        house = House(parts)
        for one in parts:
            self.assertIs(house.part(one.address), one)

    def test_no_such_part(self):
        house = House(bare("b", "a.b", "a"))
        for address in ("c", "b.a", "a.b.c", "a.a", "ab"):
            self.assert_address_refused(house.part, NoPart, address)

    def test_no_parts(self):
        house = House([])
        self.assertEqual((house.told, house.addresses(), house.has("a")), ([], [], False))
        self.assert_address_refused(house.part, NoPart, "a")

    def test_parts_that_were_read(self):
        house = House([read_part("part a.b\ndraw a as up"), read_part("part a\nlet c be 1\ndraw a.b as d")])
        self.assertEqual(house.addresses(), ["a", "a.b"])
        self.assertEqual(house.part("a").text(), "part a\nlet c be 1\ndraw a.b as d")

    def test_addresses_that_rows_name_need_not_be_there(self):
        rows = [Draw("x", "d"), Late("y.z", "e"), Take("w", "u.v", "f")]
        self.assertEqual(House([Part("a", rows)]).addresses(), ["a"])

    def test_a_part_of_more_rows_than_twelve_is_not_refused(self):
        self.assertEqual(House([part("a", *"abcdefghijklm")]).addresses(), ["a"])


class TooManyParts(Houses):
    def test_the_twelfth(self):
        self.assertEqual(House(letters(12)).addresses(), list("abcdefghijkl"))

    def test_the_thirteenth(self):
        for many in (13, 14, 20):
            self.assert_no_house(letters(many), TooMany, 12)

    def test_it_goes_ahead_of_all_others_at_its_place(self):
        self.assert_no_house(letters(12) + bare("a"), TooMany, 12)
        self.assert_no_house(letters(12) + bare("y.z"), TooMany, 12)
        self.assert_no_house(letters(12) + [part("y", "z")] + bare("y.z"), TooMany, 12)
        self.assert_no_house(letters(12) + bare("a", "y.z"), TooMany, 12)

    def test_another_one_ahead_of_it(self):
        self.assert_no_house(letters(11) + bare("a", "z"), Double, 11)
        self.assert_no_house(bare("y.z") + letters(12), Orphan, 0)
        self.assert_no_house([part("y", "z")] + bare("y.z") + letters(11), Clash, 0)


class Doubles(Houses):
    def test_the_second_of_two(self):
        self.assert_no_house(bare("a", "a"), Double, 1)
        self.assert_no_house(bare("a", "b", "c", "b", "a"), Double, 3)
        self.assert_no_house(bare("a", "a.b", "a.b"), Double, 2)
        self.assert_no_house(letters(11) + bare("a"), Double, 11)

    def test_the_same_part_twice(self):
        one = part("a")
        self.assert_no_house([one, one], Double, 1)

    def test_with_other_rows(self):
        self.assert_no_house([part("a", "x"), part("a", "y")], Double, 1)

    def test_it_goes_ahead_of_a_clash_at_its_place(self):
        self.assert_no_house([part("a"), part("a", "b"), part("a.b")], Double, 1)

    def test_the_first_of_two_is_refused_for_other_grounds(self):
        self.assert_no_house(bare("a.b", "a.b"), Orphan, 0)
        self.assert_no_house([part("a", "b"), part("a"), part("a.b")], Clash, 0)


class Orphans(Houses):
    def test_without_a_parent(self):
        self.assert_no_house(bare("a.b"), Orphan, 0)
        self.assert_no_house(bare("b", "a.b"), Orphan, 1)
        self.assert_no_house(bare("a", "b.a"), Orphan, 1)
        self.assert_no_house(bare("a", "a.b.c"), Orphan, 1)
        self.assert_no_house(bare("ab", "a.b"), Orphan, 1)
        self.assert_no_house(bare("a", "c", "b.c", "d.c"), Orphan, 2)

    def test_a_part_beneath_is_no_parent(self):
        self.assert_no_house(bare("a.b", "a.b.c"), Orphan, 0)
        self.assert_no_house(bare("a.b.c", "a.b", "b"), Orphan, 1)

    def test_a_parent_behind_its_child(self):
        for addresses in itertools.permutations(["a", "a.b", "a.b.c", "d"]):
            self.assertEqual(House(bare(*addresses)).addresses(), ["a", "a.b", "a.b.c", "d"])

    def test_a_parent_beyond_the_twelfth_will_do(self):
        self.assert_no_house(bare("y.z") + letters(11) + bare("y"), TooMany, 12)
        self.assert_no_house(bare("y.z") + letters(12) + bare("y"), TooMany, 12)
        self.assert_no_house(bare("y.z") + letters(12), Orphan, 0)

    def test_it_goes_ahead_of_a_clash_at_its_place(self):
        self.assert_no_house([part("a.b", "c"), part("a.b.c")], Orphan, 0)

    def test_names_are_no_parents(self):
        self.assert_no_house([part("b", "a"), part("a.b")], Orphan, 1)


class Clashes(Houses):
    def test_the_part_beneath_stands_behind_or_ahead(self):
        self.assert_no_house([part("a", "b"), part("a.b")], Clash, 0)
        self.assert_no_house([part("a.b"), part("a", "b")], Clash, 1)
        self.assert_no_house([part("c"), part("a.b"), part("a", "x", "y", "b")], Clash, 2)
        self.assert_no_house([part("a"), part("a.b.c"), part("a.b", "c")], Clash, 2)

    def test_by_each_row_that_binds(self):
        rows = [Let("b", ONE), Deed("b", ONE), Draw("a.b", "b"), Late("a.b", "b"), Take("w", "c", "b")]
        for row in rows:
            for ahead in range(12):
                others = [Let("klmnopqrstuv"[at], ONE) for at in range(ahead)]
                self.assert_no_house([Part("a.b", []), Part("a", others + [row])], Clash, 1)

    def test_the_part_beneath_is_beyond_the_twelfth(self):
        self.assert_no_house([part("y", "z")] + letters(11) + bare("y.z"), Clash, 0)
        self.assert_no_house(letters(11) + [part("y", "z")] + letters(20)[11:] + bare("y.z"), Clash, 11)

    def test_names_that_are_only_read_or_named(self):
        rows = [
            Need([(1, "path", ("b",))]), Draw("a.b", "c"), Late("a.b", "d"), Take("b", "a", "e"),
            Let("f", [(1, "path", ("b",))]),
        ]
        self.assertEqual(House([Part("a", rows), Part("a.b", [])]).addresses(), ["a", "a.b"])

    def test_needs_bind_none(self):
        self.assertEqual(House([Part("a", [Need(ONE)]), Part("a.b", [Need(ONE)])]).addresses(), ["a", "a.b"])

    def test_names_of_parts_elsewhere(self):
        parts = [
            part("a", "a", "b", "c", "z"), part("b", "a", "b"), part("a.d", "b", "d"), part("a.d.c", "c"), part("z"),
        ]
        self.assert_told(House(parts), parts)

    def test_names_of_parts_two_beneath(self):
        parts = [part("a", "c"), part("a.b"), part("a.b.c", "a", "b", "c")]
        self.assert_told(House(parts), parts)

    def test_beneath_an_address_of_three_names_there_is_none(self):
        parts = [part("a"), part("a.b"), part("a.b.c", "d")]
        self.assert_told(House(parts), parts)


class Places(Houses):
    def test_the_first_place_of_several(self):
        clash, below = part("a", "b"), part("a.b")
        self.assert_no_house([part("d"), part("d"), part("x.y"), clash, below], Double, 1)
        self.assert_no_house([part("d"), part("x.y"), part("d"), clash, below], Orphan, 1)
        self.assert_no_house([part("d"), clash, part("x.y"), part("d"), below], Clash, 1)
        self.assert_no_house([below, part("d"), part("x.y"), clash, part("d")], Orphan, 2)

    def test_all_small_lists(self):
        some = [
            part("a"), part("a", "b"), part("a.b"), part("a.b", "c"), part("a.b.c"), part("b", "c", "a"), part("b.a"),
        ]
        for many in range(5):
            for parts in itertools.product(some, repeat=many):
                self.check(list(parts))

    def test_two_of_many_otherwise(self):
        others = [part("a"), part("c", "z"), part("c.z"), part("y.z"), part("y", "z"), part("c", "c")]
        for many in (11, 12, 13, 14):
            for one, other in itertools.combinations(range(many), 2):
                for first, second in itertools.product(others, repeat=2):
                    parts = letters(many)
                    parts[one] = first
                    parts[other] = second
                    self.check(parts)


class With(Houses):
    def test_in_the_place_of_that_address(self):
        parts = bare("b", "a.c", "a", "d")
        for at, one in enumerate(parts):
            new = part(one.address, "x")
            other = House(parts).with_part(new)
            self.assert_told(other, parts[:at] + [new] + parts[at + 1:])
            self.assertIs(other.part(one.address), new)

    def test_behind_all(self):
        parts = bare("b", "a.c", "a")
        for address in ("c", "aa", "a.b", "a.c.a"):
            new = part(address, "x")
            self.assert_told(House(parts).with_part(new), parts + [new])

    def test_from_no_parts(self):
        new = part("a")
        self.assert_told(House([]).with_part(new), [new])

    def test_the_house_stays_as_it_was(self):
        parts = bare("b", "a")
        house = House(parts)
        house.with_part(part("a", "x"))
        house.with_part(part("c"))
        house.with_part(part("a.b"))
        self.assert_told(house, parts)

    def test_the_same_part_once_more(self):
        parts = bare("b", "a")
        house = House(parts)
        other = house.with_part(parts[1])
        self.assert_told(other, parts)
        self.assertIsNot(other, house)

    def test_the_twelfth_and_the_thirteenth(self):
        house = House(letters(11)).with_part(part("z"))
        self.assertEqual(len(house.addresses()), 12)
        self.assert_refused(lambda: house.with_part(part("y")), TooMany, 12)
        self.assert_refused(lambda: house.with_part(part("q.r")), TooMany, 12)
        new = part("z", "x")
        self.assert_told(house.with_part(new), house.told[:11] + [new])

    def test_orphan(self):
        house = House(bare("b", "a"))
        self.assert_refused(lambda: house.with_part(part("c.d")), Orphan, 2)
        self.assert_refused(lambda: house.with_part(part("a.b.c")), Orphan, 2)
        self.assert_refused(lambda: House([]).with_part(part("a.b")), Orphan, 0)

    def test_clash(self):
        house = House([part("c"), part("a", "x"), part("a.b")])
        self.assert_refused(lambda: house.with_part(part("a", "b")), Clash, 1)
        self.assert_refused(lambda: house.with_part(part("a.x")), Clash, 1)
        self.assert_refused(lambda: House([part("a", "b")]).with_part(part("a.b")), Clash, 0)

    def test_a_clash_may_be_told_away(self):
        house = House([part("a", "x")]).with_part(part("a")).with_part(part("a.x"))
        self.assertEqual(house.addresses(), ["a", "a.x"])

    def test_what_is_refused_changes_nothing(self):
        parts = [part("a", "x"), part("a.b")]
        house = House(parts)
        for new in (part("c.d"), part("a", "b"), part("a.x")):
            with self.assertRaises(HouseError):
                house.with_part(new)
            self.assert_told(house, parts)


class Without(Houses):
    def test_the_others_in_their_order(self):
        parts = bare("b", "a.c", "a", "d")
        for at in (0, 1, 3):
            other = House(parts).without(parts[at].address)
            self.assert_told(other, parts[:at] + parts[at + 1:])

    def test_the_last_one(self):
        self.assert_told(House(bare("a")).without("a"), [])

    def test_no_such_part(self):
        house = House(bare("b", "a.c", "a"))
        for address in ("c", "a.b", "b.c", "a.c.d", "aa"):
            self.assert_address_refused(house.without, NoPart, address)
        self.assert_address_refused(House([]).without, NoPart, "a")

    def test_a_parent(self):
        for addresses in itertools.permutations(["a", "a.b", "a.b.c", "ab"]):
            house = House(bare(*addresses))
            self.assert_address_refused(house.without, NoDrop, "a")
            self.assert_address_refused(house.without, NoDrop, "a.b")
            self.assertEqual(house.without("ab").addresses(), ["a", "a.b", "a.b.c"])
            self.assertEqual(house.without("a.b.c").without("a.b").without("a").addresses(), ["ab"])

    def test_a_part_that_others_only_name(self):
        house = House([Part("a", [Draw("b", "x"), Take("w", "b", "y"), Late("b", "z")]), part("b")])
        self.assertEqual(house.without("b").addresses(), ["a"])

    def test_the_house_stays_as_it_was(self):
        parts = bare("b", "a.c", "a")
        house = House(parts)
        house.without("b")
        house.without("a.c")
        self.assert_address_refused(house.without, NoDrop, "a")
        self.assert_address_refused(house.without, NoPart, "z")
        self.assert_told(house, parts)

    def test_with_it_once_more_it_stands_behind_all(self):
        first, second = bare("a", "b")
        self.assert_told(House([first, second]).without("a").with_part(first), [second, first])


class ListsOfTheirOwn(Houses):
    def test_the_parts_handed_in_may_be_changed_behind(self):
        parts = bare("b", "a.c", "a")
        handed = list(parts)
        house = House(parts)
        parts.append(part("z"))
        parts[0] = part("y")
        self.assert_told(house, handed)
        self.assertEqual((house.addresses(), house.has("z"), house.has("b")), (["a", "a.c", "b"], False, True))
        parts.clear()
        self.assert_told(house, handed)
        self.assert_told(house.with_part(handed[0]), handed)

    def test_the_parts_handed_in_are_not_changed(self):
        parts = bare("b", "a.c", "a")
        handed = list(parts)
        house = House(parts)
        house.addresses()
        house.with_part(part("z"))
        house.with_part(part("a", "x"))
        house.without("b")
        self.assertEqual(parts, handed)
        wrong = bare("b", "a", "b")
        handed = list(wrong)
        self.assert_no_house(wrong, Double, 2)
        self.assertEqual(wrong, handed)

    def test_a_told_list_may_be_changed(self):
        house = House(bare("b", "a.c", "a"))
        first = house.addresses()
        second = house.addresses()
        first.append("z")
        first[0] = "y"
        self.assertEqual((second, house.addresses()), (["a", "a.c", "b"], ["a", "a.c", "b"]))
        first.clear()
        self.assertEqual((house.addresses(), house.has("a"), house.has("z")), (["a", "a.c", "b"], True, False))

    def test_two_houses_know_nothing_of_one_another(self):
        parts = bare("b", "a")
        house = House(parts)
        others = [House(parts), house.with_part(parts[0]), house.with_part(part("c")), house.without("b")]
        for other in others:
            self.assertIsNot(other.told, house.told)
            other.told.clear()
        self.assert_told(house, parts)


if __name__ == "__main__":
    unittest.main()
