"""Points 8 and 23: knots, and the rings of names that aren't there yet; points 3 and 20 of them."""

import itertools
import unittest

from drawhouse.errors import Fault
from drawhouse.filling import Filling
from drawhouse.house import House
from drawhouse.knots import knots
from drawhouse.links import leads, links
from drawhouse.reader import read_part
from telling import Chance, house_of

TWELVE = "abcdefghijkl"


def drawing(arrows, addresses):
    """A house in which each part draws those that stand behind it in the arrows."""
    texts = []
    for one in addresses:
        rows = [f"draw {other} as {other}" for first, other in arrows if first == one]
        texts.append("\n".join([f"part {one}"] + rows))
    return house_of(*texts)


def ring(many):
    return list(zip(TWELVE, TWELVE[1:many] + TWELVE[0]))


class Knots(unittest.TestCase):
    def check(self, house):
        """Point 23, word by word, of what is told."""
        told = knots(house)
        linked = {one: links(house, one) for one in house.addresses()}
        led = {one: leads(house, one) for one in house.addresses()}
        together = lambda one, other: one == other or (one in led[other] and other in led[one])
        asked = {tuple(other for other in sorted(led) if together(one, other)) for one in led}
        self.assertIs(type(told), list)
        for place, knot in enumerate(told):
            self.assertIs(type(knot), list)
            ahead = {address for other in told[:place] for address in other}
            left = asked - {tuple(other) for other in told[:place]}
            free = [one for one in left if all(set(linked[address]) <= ahead | set(one) for address in one)]
            self.assertEqual(tuple(knot), min(free), [part.text() for part in house.told])
        self.assertEqual(len(told), len(asked))
        return told


class Told(Knots):
    def test_no_parts(self):
        self.assertEqual(knots(House([])), [])

    def test_a_part_alone(self):
        self.assertEqual(knots(drawing([], "a")), [["a"]])
        self.assertEqual(knots(drawing(["aa"], "a")), [["a"]])

    def test_without_links_they_come_by_their_addresses(self):
        self.assertEqual(knots(house_of("part c", "part ab", "part a", "part b")), [["a"], ["ab"], ["b"], ["c"]])

    def test_whoever_is_linked_to_comes_ahead(self):
        self.assertEqual(knots(drawing(["ab", "bc"], "abc")), [["c"], ["b"], ["a"]])
        self.assertEqual(knots(drawing(["ad"], "abcd")), [["b"], ["c"], ["d"], ["a"]])

    def test_one_that_comes_free_is_taken_at_once_where_it_is_the_least(self):
        self.assertEqual(knots(drawing(["ac"], "abcd")), [["b"], ["c"], ["a"], ["d"]])
        self.assertEqual(knots(drawing(["ab", "ca"], "abcd")), [["b"], ["a"], ["c"], ["d"]])

    def test_parts_beneath_come_behind_their_parents(self):
        house = house_of("part a.b.c", "part a.b", "part a\ndraw z as z", "part b", "part z")
        self.assertEqual(knots(house), [["b"], ["z"], ["a"], ["a.b"], ["a.b.c"]])

    def test_a_parent_that_draws_its_child(self):
        self.assertEqual(knots(house_of("part a\nlate a.b as x", "part a.b", "part a.c")), [["a", "a.b"], ["a.c"]])

    def test_a_parent_that_takes_its_child(self):
        self.assertEqual(knots(house_of("part a\ntake b from a as x", "part a.b", "part a.c")), [["a", "a.b"], ["a.c"]])

    def test_two_rings_and_between(self):
        house = drawing(["ab", "ba", "bc", "cd", "de", "ed", "fe"], "abcdef")
        self.assertEqual(knots(house), [["d", "e"], ["c"], ["a", "b"], ["f"]])

    def test_rings_that_share_a_part(self):
        self.assertEqual(knots(drawing(["ab", "ba", "bc", "cb"], "abc")), [["a", "b", "c"]])

    def test_the_first_address_of_a_knot_is_what_is_compared(self):
        house = drawing(["af", "fa", "bz", "gz"], "zgfba")
        self.assertEqual(knots(house), [["a", "f"], ["z"], ["b"], ["g"]])

    def test_a_ring_of_twelve(self):
        self.assertEqual(knots(drawing(ring(12), TWELVE)), [list(TWELVE)])
        self.assertEqual(knots(drawing(ring(12), reversed(TWELVE))), [list(TWELVE)])

    def test_one_link_less(self):
        for at in range(12):
            arrows = ring(12)[:at] + ring(12)[at + 1:]
            told = [[TWELVE[(at - back) % 12]] for back in range(12)]
            self.assertEqual(knots(drawing(arrows, TWELVE)), told)

    def test_every_kind_of_row_makes_a_ring(self):
        for row in ("draw a as x", "late a as x", "take w from a as x"):
            self.assertEqual(knots(house_of(f"part b\n{row}", "part a\nlate b as x")), [["a", "b"]])

    def test_what_is_not_there_makes_none(self):
        house = house_of("part a\ndraw b.z as x", "part b\ndraw z as z\nlate a.b as y\ntake a from z as t")
        self.assertEqual(knots(house), [["a", "b"]])
        self.assertEqual(knots(house_of("part a\ndraw z as x", "part b\ndraw z.a as z")), [["a"], ["b"]])


class WordByWord(Knots):
    def test_all_houses_of_three_parts(self):
        arrows = ["ab", "ac", "ba", "bc", "ca", "cb", "aa", "bb"]
        for many in range(len(arrows) + 1):
            for some in itertools.combinations(arrows, many):
                self.check(drawing(some, "abc"))

    def test_houses_of_four_parts(self):
        arrows = [one + other for one, other in itertools.permutations("abcd", 2)]
        for many in (1, 2, 3, 4, 5):
            for some in list(itertools.combinations(arrows, many))[::2]:
                self.check(drawing(some, "dbca"))

    def test_houses_by_chance(self):
        for seed in range(300):
            self.check(house_of(*Chance(seed, 9, 2).texts()))

    def test_in_whichever_order_parts_are_told(self):
        for seed in range(80):
            texts = Chance(seed, 8, 2).texts()
            self.assertEqual(knots(house_of(*texts)), knots(house_of(*reversed(texts))))

    def test_leading_to_one_another_is_being_in_one_knot(self):
        house = drawing(["ab", "bc", "ca", "cd", "de", "ed"], "abcde")
        self.assertEqual(self.check(house), [["d", "e"], ["a", "b", "c"]])


class WithAndWithout(Knots):
    def test_with_and_without_a_part(self):
        house = drawing(["ab", "bc", "ca"], "abc")
        self.assertEqual(knots(house.with_part(read_part("part c"))), [["c"], ["b"], ["a"]])
        self.assertEqual(knots(house.with_part(read_part("part c.d\ndraw a as a"))), [["a", "b", "c"], ["c.d"]])
        self.assertEqual(knots(house.without("b")), [["a"], ["c"]])
        self.assertEqual(knots(house.without("b").without("a").without("c")), [])
        self.assertEqual(knots(house), [["a", "b", "c"]])


class ListsOfTheirOwn(Knots):
    def test_told_lists_may_be_changed_and_the_lists_within_too(self):
        house = drawing(["ab", "ba"], "abc")
        first, second = knots(house), knots(house)
        first[0].append("z")
        first[1][0] = "y"
        first.append(["x"])
        self.assertEqual((second, knots(house)), ([["a", "b"], ["c"]], [["a", "b"], ["c"]]))

    def test_nothing_handed_in_is_changed(self):
        house = drawing(["ab", "ba"], "cba")
        told = list(house.told)
        knots(house)
        self.assertEqual(house.told, told)


class RingsOfUnfilledNames(unittest.TestCase):
    """Point 8: a name that isn't there yet is told with a ring."""

    def faults(self, house):
        told = []
        for address in house.addresses():
            try:
                Filling(house).draw_step(address)
            except Fault as fault:
                if fault.word == "unfilled":
                    told.append(fault)
        return told

    def assert_ring(self, house, fault):
        filling = [address for address, _ in fault.trail]
        self.assertIn(fault.whose, filling)
        ring = fault.trail[filling.index(fault.whose):]
        self.assertGreaterEqual(house.part(fault.whose).place_of(fault.name), ring[0][1])
        parts = [address for address, _ in ring]
        for one, other in zip(parts, parts[1:] + parts[:1]):
            if one != other:
                self.assertIn(other, leads(house, one))
        if len(parts) > 1:
            self.assertTrue(any(set(parts) <= set(knot) for knot in knots(house)))
        return parts

    def test_a_ring_of_two(self):
        house = house_of("part a\ndraw b as b\nlet x be 1", "part b\ndraw a as a\nlet y be a.x")
        lengths = [(fault.whose, fault.name, self.assert_ring(house, fault)) for fault in self.faults(house)]
        self.assertEqual(lengths, [("a", "x", ["a", "b"])])

    def test_a_part_alone(self):
        house = house_of("part a\nlet x be y\nlet y be 1")
        self.assertEqual([self.assert_ring(house, fault) for fault in self.faults(house)], [["a"]])

    def test_a_ring_of_twelve(self):
        texts = [f"part {one}\ndraw {other} as {other}\nlet x be {other}.x" for one, other in ring(12)]
        house = house_of(*texts)
        self.assertEqual({len(self.assert_ring(house, fault)) for fault in self.faults(house)}, {12})
        self.assertEqual(len(self.faults(house)), 12)
        less = house_of(*texts[:-1], "part l\nlet x be 1")
        self.assertEqual(self.faults(less), [])

    def test_houses_by_chance(self):
        lengths = {}
        for seed in range(1500):
            house = house_of(*Chance(seed).texts())
            for fault in self.faults(house):
                many = len(self.assert_ring(house, fault))
                lengths[many] = lengths.get(many, 0) + 1
        self.assertTrue(all(lengths.get(many, 0) > 20 for many in (1, 2, 3)), lengths)


if __name__ == "__main__":
    unittest.main()
