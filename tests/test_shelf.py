"""Points 24 to 33 as a shelf tells them, 6, 7 and 9 of draws; points 3 and 4 of them."""

import unittest

from drawhouse.errors import Fault, HouseError, NoName, NoPart
from drawhouse.house import House
from drawhouse.links import leads
from drawhouse.parts import Part
from drawhouse.reader import read_part
from drawhouse.rows import Let
from drawhouse.shelf import Shelf
from drawhouse.wells import wells
from telling import Chance, Demanding, Telling, fault_of, house_of

TWELVE = "abcdefghijkl"
RING_OF_TWO = ["part p\nlet x be 1\ndraw q as q\nlet z be q.y + x", "part q\ndraw p as p\nlet y be p.x + 1"]


def ring_of_twelve():
    """Each part draws the next one, and reads a name of it that is bound ahead of its draw."""
    pairs = list(zip(TWELVE, TWELVE[1:] + "a"))
    return [f"part {one}\nlet x be {at}\ndraw {other} as o\nlet y be o.x" for at, (one, other) in enumerate(pairs)]


def stand(shelf):
    """All that a shelf tells."""
    filled = shelf.filled()
    return (
        filled, [shelf.names(one) for one in filled], [shelf.touched(one) for one in filled], shelf.logs(),
        [shelf.has_filled(one) for one in shelf.house.addresses()],
    )


class Shelves(unittest.TestCase):
    def drawn(self, *texts, draws="p"):
        """A shelf of the house that the texts tell, behind the draws of these addresses."""
        shelf = Shelf(house_of(*texts))
        for address in draws:
            shelf.draw(address)
        return shelf

    def assert_refused(self, shelf, address, word, trail, whose, name):
        """The draw is refused with that fault, and the shelf is as it was."""
        ahead = stand(shelf)
        self.assertEqual(fault_of(lambda: shelf.draw(address)), (word, trail, whose, name))
        self.assertEqual(stand(shelf), ahead)


class Draws(Shelves):
    def test_a_house_without_parts(self):
        shelf = Shelf(House([]))
        self.assertEqual((shelf.filled(), shelf.logs(), shelf.has_filled("a")), ([], [], False))
        for address, whose in (("a", "a"), ("a.b", "a"), ("a.b.c", "a")):
            self.assert_refused(shelf, address, "unknown", [], whose, "")

    def test_a_part_without_rows(self):
        shelf = Shelf(house_of("part p"))
        self.assertEqual(shelf.draw("p"), [("begin", "p"), ("end", "p")])
        self.assertEqual((shelf.filled(), shelf.names("p"), shelf.touched("p")), (["p"], [], []))

    def test_a_part_that_draws_itself(self):
        shelf = Shelf(house_of("part p\ndraw p as p\nlet x be p.p"))
        self.assertEqual(shelf.draw("p"), [
            ("begin", "p"), ("row", "p", 0), ("there", "p"), ("bind", "p", "p", ("part", "p")), ("row", "p", 1),
            ("see", "p", "p", ("part", "p")), ("see", "p", "p", ("part", "p")), ("bind", "p", "x", ("part", "p")),
            ("end", "p"),
        ])
        self.assertEqual(shelf.touched("p"), [])

    def test_a_ring_of_two(self):
        shelf = Shelf(house_of(*RING_OF_TWO))
        self.assertEqual(shelf.draw("p"), [
            ("begin", "p"), ("row", "p", 0), ("bind", "p", "x", 1), ("row", "p", 1), ("begin", "q"), ("row", "q", 0),
            ("there", "p"), ("bind", "q", "p", ("part", "p")), ("row", "q", 1), ("see", "q", "p", ("part", "p")),
            ("see", "p", "x", 1), ("bind", "q", "y", 2), ("end", "q"), ("bind", "p", "q", ("part", "q")),
            ("row", "p", 2), ("see", "p", "q", ("part", "q")), ("see", "q", "y", 2), ("see", "p", "x", 1),
            ("bind", "p", "z", 3), ("end", "p"),
        ])
        self.assertEqual(shelf.filled(), ["q", "p"])
        self.assertEqual(shelf.names("p"), [("x", 1), ("q", ("part", "q")), ("z", 3)])
        self.assertEqual(shelf.names("q"), [("p", ("part", "p")), ("y", 2)])

    def test_a_ring_of_twelve(self):
        shelf = self.drawn(*ring_of_twelve(), draws="a")
        self.assertEqual(shelf.filled(), list(reversed(TWELVE)))
        self.assertEqual([shelf.means(one, "y") for one in TWELVE], [1, 2, 3, 4, 5, 6, 7, 8, 9, 10, 11, 0])
        other = self.drawn(*ring_of_twelve(), draws="e")
        self.assertEqual(other.filled(), list("dcbalkjihgfe"))
        for one in TWELVE:
            self.assertEqual(shelf.names(one), other.names(one))
            self.assertEqual((shelf.touched(one), other.touched(one)), ([shelf.means(one, "o")[1]],) * 2)

    def test_a_name_read_ahead_of_its_row_in_a_ring(self):
        texts = [text.replace("draw", "let w be 0\ndraw") for text in ring_of_twelve()]
        texts[-1] = "part l\ndraw a as o\nlet y be o.y\nlet x be 1"
        shelf = Shelf(house_of(*texts))
        ring = [(one, 2) for one in TWELVE[:-1]]
        self.assert_refused(shelf, "a", "unfilled", ring + [("l", 1)], "a", "y")
        self.assert_refused(shelf, "l", "unfilled", [("l", 0)] + ring[:-1] + [("k", 3)], "l", "x")

    def test_late_holds(self):
        others = ["part q\nlet x be 4", "part r"]
        read = Shelf(house_of("part p\nlate q as l\nlate r as k\nlet y be l.x\nlet z be l", *others))
        self.assertEqual(read.draw("p"), [
            ("begin", "p"), ("row", "p", 0), ("bind", "p", "l", ("late", "q")), ("row", "p", 1),
            ("bind", "p", "k", ("late", "r")), ("row", "p", 2), ("see", "p", "l", ("late", "q")), ("begin", "q"),
            ("row", "q", 0), ("bind", "q", "x", 4), ("end", "q"), ("see", "q", "x", 4), ("bind", "p", "y", 4),
            ("row", "p", 3), ("see", "p", "l", ("late", "q")), ("there", "q"), ("bind", "p", "z", ("part", "q")),
            ("end", "p"),
        ])
        self.assertEqual((read.filled(), read.touched("p")), (["q", "p"], ["q"]))
        self.assertEqual((read.means("p", "l"), read.means("p", "k")), (("late", "q"), ("late", "r")))

    def test_late_holds_that_nobody_reads(self):
        shelf = self.drawn("part p\nlate q as l\nlate z.y as k", "part q\nneed z")
        self.assertEqual((shelf.filled(), shelf.touched("p")), (["p"], []))
        self.assertEqual(shelf.names("p"), [("l", ("late", "q")), ("k", ("late", "z.y"))])

    def test_a_take_of_a_part_and_one_of_a_name(self):
        texts = ["part p\ntake b from a as x\ntake c from a as y", "part a\nlet c be 7", "part a.b"]
        shelf = Shelf(house_of(*texts))
        self.assertEqual(shelf.draw("p"), [
            ("begin", "p"), ("row", "p", 0), ("begin", "a"), ("row", "a", 0), ("bind", "a", "c", 7), ("end", "a"),
            ("there", "a"), ("begin", "a.b"), ("end", "a.b"), ("bind", "p", "x", ("part", "a.b")), ("row", "p", 1),
            ("there", "a"), ("see", "a", "c", 7), ("bind", "p", "y", 7), ("end", "p"),
        ])
        self.assertEqual(shelf.filled(), ["a", "a.b", "p"])
        self.assertEqual([shelf.touched(one) for one in ("p", "a", "a.b")], [["a", "a.b"], [], ["a"]])

    def test_a_deed_called_from_another_part(self):
        texts = ["part p\ndraw q as q\nlet x be q.f()", "part q\nlate r as r\ndeed f be r.n", "part r\nlet n be 3"]
        shelf = Shelf(house_of(*texts))
        deed = ("deed", "q", "f", "r.n")
        self.assertEqual(shelf.draw("p")[9:], [
            ("row", "p", 1), ("see", "p", "q", ("part", "q")), ("see", "q", "f", deed), ("call", "q", "f"),
            ("see", "q", "r", ("late", "r")), ("begin", "r"), ("row", "r", 0), ("bind", "r", "n", 3), ("end", "r"),
            ("see", "r", "n", 3), ("back", 3), ("bind", "p", "x", 3), ("end", "p"),
        ])
        self.assertEqual([shelf.touched(one) for one in "pqr"], [["q", "r"], [], []])
        self.assertEqual(shelf.means("q", "f"), deed)

    def test_a_deed_that_reads_nothing(self):
        texts = ["part p\ntake g from q as h\nlet x be h()", "part q\ntake f from r as g", "part r\ndeed f be 4"]
        shelf = Shelf(house_of(*texts))
        deed = ("deed", "r", "f", "4")
        self.assertEqual(shelf.draw("p")[-6:], [
            ("row", "p", 1), ("see", "p", "h", deed), ("call", "r", "f"), ("back", 4), ("bind", "p", "x", 4),
            ("end", "p"),
        ])
        self.assertEqual([shelf.touched(one) for one in "pqr"], [["q"], ["r"], []])

    def test_a_draw_of_a_part_that_is_filled(self):
        shelf = self.drawn("part a\nlet x be 1", "part a.b", "part a.b.c", draws=["a.b.c"])
        names = shelf.names("a")
        self.assertEqual(shelf.draw("a.b.c"), [("there", "a"), ("there", "a.b"), ("there", "a.b.c")])
        self.assertEqual(shelf.draw("a"), [("there", "a")])
        self.assertEqual((shelf.filled(), shelf.names("a")), (["a", "a.b", "a.b.c"], names))
        self.assertEqual([address for address, _ in shelf.logs()], ["a.b.c", "a.b.c", "a"])

    def test_the_argument_of_each(self):
        shelf = Shelf(house=house_of("part p\nlet x be 1"))
        shelf.draw(address="p")
        self.assertIs(shelf.has_filled(address="p"), True)
        self.assertEqual((shelf.names(address="p"), shelf.touched(address="p")), ([("x", 1)], []))
        self.assertEqual(shelf.means(address="p", name="x"), 1)

    def test_the_field_house(self):
        house = house_of("part p")
        self.assertIs(Shelf(house).house, house)
        self.assertIs(Shelf(house).copied().house, house)


class Faults(Shelves):
    def test_each_word(self):
        others = ["part q\nlet n be 1", "part r"]
        for rows, fault in (
            ("draw z.y as k", ("unknown", [("p", 0)], "z", "")),
            ("draw r.y.x as k", ("unknown", [("p", 0)], "r.y", "")),
            ("late r.y as l\nneed l", ("unknown", [("p", 1)], "r.y", "")),
            ("take n from z as k", ("unknown", [("p", 0)], "z", "")),
            ("need 1\nlet a be b\nlet b be 1", ("unfilled", [("p", 1)], "p", "b")),
            ("take n from r as k", ("missing", [("p", 0)], "r", "n")),
            ("draw q as k\nneed 1 + k.m", ("missing", [("p", 1)], "q", "m")),
            ("draw q as k\nneed k.n.n", ("nopart", [("p", 1)], "q", "n")),
            ("draw q as k\nneed k.n()", ("nodeed", [("p", 1)], "q", "n")),
            ("draw q as k\nneed 1 - k", ("nonumber", [("p", 1)], "p", "k")),
            ("draw q as k\ndeed f be k\nneed f() + 1", ("nonumber", [("p", 2)], "p", "f")),
        ):
            with self.subTest(rows=rows):
                self.assert_refused(Shelf(house_of("part p\n" + rows, *others)), "p", *fault)

    def test_an_address_and_a_prefix_that_the_house_does_not_have(self):
        shelf = Shelf(house_of("part p", "part p.q"))
        for address, whose in (
            ("z", "z"), ("z.p", "z"), ("z.p.q", "z"), ("p.z", "p.z"), ("p.z.q", "p.z"), ("p.q.z", "p.q.z"),
        ):
            self.assert_refused(shelf, address, "unknown", [], whose, "")

    def test_all_that_a_refused_draw_began_is_absent_again(self):
        texts = ["part p\ndraw a.b as k\nneed z", "part a\nlet x be 1", "part a.b"]
        shelf = Shelf(house_of(*texts))
        self.assert_refused(shelf, "p", "missing", [("p", 1)], "p", "z")
        self.assertEqual((shelf.filled(), shelf.logs(), shelf.has_filled("a")), ([], [], False))
        for address in ("p", "a", "a.b"):
            self.assertRaises(NoPart, lambda: shelf.names(address))
        self.assertEqual(shelf.draw("a")[0], ("begin", "a"))

    def test_a_prefix_that_was_filled_by_it_too(self):
        shelf = Shelf(house_of("part p"))
        self.assert_refused(shelf, "p.z", "unknown", [], "p.z", "")
        self.assertEqual(shelf.draw("p"), [("begin", "p"), ("end", "p")])

    def test_refused_behind_others_that_went_well(self):
        texts = ["part a\nlet x be 1", "part b\ndraw a as a\nlate c as c", "part c\ndraw d as d\nneed z", "part d"]
        shelf = self.drawn(*texts, draws="ab")
        for _ in range(3):
            self.assert_refused(shelf, "c", "missing", [("c", 1)], "c", "z")
        self.assertEqual(shelf.draw("d"), [("begin", "d"), ("end", "d")])
        self.assertEqual([address for address, _ in shelf.logs()], ["a", "b", "d"])
        self.assert_refused(shelf, "c", "missing", [("c", 1)], "c", "z")

    def test_refused_alone_and_not_behind_another_one(self):
        texts = ["part p\ndraw q as q\nlet x be 1", "part q\ndraw p as p\nneed p.x"]
        shelf = Shelf(house_of(*texts))
        self.assert_refused(shelf, "p", "unfilled", [("p", 0), ("q", 1)], "p", "x")
        shelf.draw("q")
        self.assertEqual((shelf.filled(), shelf.draw("p")), (["p", "q"], [("there", "p")]))

    def test_the_class_and_its_fields(self):
        shelf = Shelf(house_of("part p\nneed z"))
        with self.assertRaises(Fault) as taken:
            shelf.draw("p")
        self.assertIs(type(taken.exception), Fault)
        self.assertIsInstance(taken.exception, HouseError)
        self.assertEqual([type(one) for one in (taken.exception.trail, taken.exception.trail[0])], [list, tuple])

    def test_the_trail_is_ones_own(self):
        shelf = Shelf(house_of("part p\nneed z"))
        with self.assertRaises(Fault) as taken:
            shelf.draw("p")
        taken.exception.trail.append("z")
        self.assert_refused(shelf, "p", "missing", [("p", 0)], "p", "z")


class Told(Shelves):
    TEXTS = ["part a\nlet x be 1\nneed x\nlate z as l\ndeed f be x", "part b\ndraw a as a", "part c", "part a.d"]

    def refusal(self, ask):
        with self.assertRaises(HouseError) as taken:
            ask()
        return (type(taken.exception), vars(taken.exception))

    def test_filled_in_the_order_in_which_they_came_to_be_filled(self):
        self.assertEqual(self.drawn(*self.TEXTS, draws=["c", "b", "a.d"]).filled(), ["c", "a", "b", "a.d"])
        self.assertEqual(self.drawn(*self.TEXTS, draws=["a.d", "c", "b", "a"]).filled(), ["a", "a.d", "c", "b"])

    def test_has_filled(self):
        shelf = self.drawn(*self.TEXTS, draws="a")
        told = [shelf.has_filled(address) for address in ("a", "a.d", "b", "c", "z", "a.d.e")]
        self.assertEqual([(type(one), one) for one in told], [(bool, True)] + [(bool, False)] * 5)

    def test_names_in_the_order_of_the_rows(self):
        shelf = self.drawn("part p\nlet z be 1\nlet a be 2\nneed a\nlet m be 3")
        self.assertEqual(shelf.names("p"), [("z", 1), ("a", 2), ("m", 3)])
        self.assertEqual({type(one) for one in shelf.names("p")}, {tuple})

    def test_names_and_means_as_they_are_bound(self):
        shelf = self.drawn(*self.TEXTS, draws="b")
        self.assertEqual(shelf.names("a"), [("x", 1), ("l", ("late", "z")), ("f", ("deed", "a", "f", "x"))])
        for address in shelf.filled():
            for name, value in shelf.names(address):
                self.assertEqual(shelf.means(address, name), value)

    def test_of_a_part_that_is_not_filled_or_is_none(self):
        shelf = self.drawn(*self.TEXTS, draws="a")
        for address in ("b", "a.d", "c", "z", "a.z"):
            for ask in (
                lambda: shelf.names(address), lambda: shelf.touched(address), lambda: shelf.means(address, "a"),
                lambda: shelf.means(address, "zz"),
            ):
                self.assertEqual(self.refusal(ask), (NoPart, {"address": address}))

    def test_of_a_name_that_is_not_bound(self):
        shelf = self.drawn(*self.TEXTS, draws=["b", "a.d"])
        for address, name in (("a", "z"), ("a", "a"), ("a", "d"), ("b", "x"), ("a.d", "x")):
            self.assertEqual(self.refusal(lambda: shelf.means(address, name)), (NoName, {"name": name}))

    def test_what_is_refused_changes_nothing(self):
        shelf = self.drawn(*self.TEXTS, draws="b")
        ahead = stand(shelf)
        for ask in (lambda: shelf.names("c"), lambda: shelf.touched("z"), lambda: shelf.means("a", "z")):
            self.refusal(ask)
        self.assertEqual(stand(shelf), ahead)

    def test_touched(self):
        texts = [
            "part p\ndraw a.b as k\nlate c as l\nlate d as m\nneed m.e.x\nneed k", "part a", "part a.b", "part c",
            "part d\ndraw e as e", "part e\nlet x be 1", "part p.q",
        ]
        shelf = self.drawn(*texts, draws=["p.q"])
        self.assertEqual(shelf.touched("p"), ["a", "a.b", "d", "e"])
        self.assertEqual([shelf.touched(one) for one in ("a", "a.b", "d", "e", "p.q")], [[], ["a"], ["e"], [], ["p"]])

    def test_what_is_touched_are_parts_to_which_it_leads(self):
        for seed in range(300):
            chance = Chance(seed)
            texts = chance.texts()
            shelf = Shelf(house_of(*texts))
            for address in chance.draws(texts, 5):
                fault_of(lambda: shelf.draw(address))
            for one in shelf.filled():
                self.assertLessEqual(set(shelf.touched(one)), set(leads(shelf.house, one)) - {one})

    def test_logs_of_draws_that_were_not_refused(self):
        shelf = Shelf(house_of(*self.TEXTS, "part w\nneed z"))
        self.assertEqual(shelf.logs(), [])
        kept = []
        for address in ("c", "w", "b", "z", "c", "a.z", "a.d"):
            if address in ("w", "z", "a.z"):
                self.assertIsNotNone(fault_of(lambda: shelf.draw(address)))
            else:
                kept.append((address, shelf.draw(address)))
            self.assertEqual(shelf.logs(), kept)
        self.assertEqual({(type(one), type(one[1]), type(one[1][0])) for one in shelf.logs()}, {(tuple, list, tuple)})


class NewOnes(Shelves):
    TEXTS = ["part a\nlet x be 1", "part b\ndraw a as a\nlet y be a.x", "part c\ndraw b as b"]

    def test_what_is_told_may_be_changed(self):
        shelf = self.drawn(*self.TEXTS, draws="ab")
        for ask in (shelf.filled, shelf.logs, lambda: shelf.names("b"), lambda: shelf.touched("b")):
            first = ask()
            kept = list(first)
            first.append("z")
            first.reverse()
            self.assertEqual(ask(), kept)

    def test_the_log_of_a_draw_is_ones_own(self):
        shelf = Shelf(house_of(*self.TEXTS))
        log = shelf.draw("a")
        kept = list(log)
        log.clear()
        self.assertEqual(shelf.logs(), [("a", kept)])
        told = shelf.logs()
        told[0][1].clear()
        self.assertEqual(shelf.logs(), [("a", kept)])
        self.assertEqual(log, [])

    def test_what_was_told_stays(self):
        shelf = self.drawn(*self.TEXTS, draws="a")
        told = [shelf.filled(), shelf.logs(), shelf.names("a"), shelf.touched("a"), shelf.draw("a")]
        kept = [list(one) for one in told]
        shelf.draw("c")
        self.assertEqual(told, kept)

    def test_nothing_that_is_handed_in_is_changed(self):
        house = house_of(*self.TEXTS, "part d\nneed z")
        told = [(part, part.text()) for part in house.told]
        shelf = Shelf(house)
        for address in "cdaz":
            fault_of(lambda: shelf.draw(address))
        self.assertEqual([(part, part.text()) for part in house.told], told)

    def test_what_is_changed_behind_in_what_was_handed_in(self):
        terms, rows = [(1, "number", 5)], []
        rows.append(Let("x", terms))
        parts = [Part("p", rows), read_part("part q")]
        shelf = Shelf(House(parts))
        terms.clear()
        rows.clear()
        parts.clear()
        shelf.draw("p")
        self.assertEqual((shelf.names("p"), shelf.house.addresses()), ([("x", 5)], ["p", "q"]))


class Copies(Shelves):
    TEXTS = ["part a\nlet x be 1", "part b\ndraw a as a", "part c\ndraw b as b", "part d\nneed z"]

    def test_a_copied_one_tells_all_that_the_other_one_tells(self):
        shelf = self.drawn(*self.TEXTS, draws="bab")
        self.assertIsNotNone(fault_of(lambda: shelf.draw("d")))
        other = shelf.copied()
        self.assertIs(type(other), Shelf)
        self.assertEqual(stand(other), stand(shelf))
        self.assertEqual(stand(other.copied()), stand(shelf))

    def test_each_goes_on_by_itself(self):
        shelf = self.drawn(*self.TEXTS, draws="a")
        other = shelf.copied()
        ahead = stand(shelf)
        other.draw("c")
        self.assertEqual(stand(shelf), ahead)
        behind = stand(other)
        self.assertEqual([address for address, _ in other.logs()], ["a", "c"])
        shelf.draw("b")
        shelf.draw("b")
        self.assertEqual(stand(other), behind)
        self.assertEqual(shelf.filled(), ["a", "b"])

    def test_what_is_done_to_logs_of_the_one(self):
        shelf = self.drawn(*self.TEXTS, draws="a")
        other = shelf.copied()
        kept = stand(other)
        shelf.logs()[0][1].clear()
        shelf.logs().clear()
        self.assertEqual(stand(other), kept)

    def test_two_shelves_of_one_house(self):
        house = house_of(*self.TEXTS)
        one, other = Shelf(house), Shelf(house)
        one.draw("c")
        self.assertEqual((other.filled(), other.logs(), other.has_filled("a")), ([], [], False))

    def test_a_copy_of_the_empty_shelf(self):
        other = Shelf(house_of(*self.TEXTS)).copied()
        self.assertEqual((other.filled(), other.logs()), ([], []))
        self.assertEqual(other.draw("a")[0], ("begin", "a"))


class AgainstASecondTelling(Shelves):
    def check_draws(self, texts, draws):
        shelf, telling, logs = Shelf(house_of(*texts)), Telling(texts), []
        for address in draws:
            log, fault = telling.draw(address)
            if fault is None:
                logs.append((address, log))
                self.assertEqual(shelf.draw(address), log)
            else:
                self.assert_refused(shelf, address, *fault)
        filled = telling.filled()
        self.assertEqual(stand(shelf)[:4], (
            filled, [telling.names(one) for one in filled], [telling.touched(one) for one in filled], logs,
        ))

    def test_houses_by_chance(self):
        for seed in range(5000, 6000):
            chance = Chance(seed)
            texts = chance.texts()
            with self.subTest(texts=texts):
                self.check_draws(texts, chance.draws(texts, 7))

    def test_great_houses_by_chance(self):
        for seed in range(5000, 5150):
            chance = Chance(seed, 12, 10)
            texts = chance.texts()
            with self.subTest(texts=texts):
                self.check_draws(texts, chance.draws(texts, 14))


class States(Shelves):
    """Points 6, 7, 9, 33 and 43, over all states of houses by chance."""

    @classmethod
    def setUpClass(cls):
        cls.houses = []
        for seed in range(700):
            texts = Chance(seed, 5, 5).texts()
            house = house_of(*texts)
            cls.houses.append((texts, house, *cls.all_states(house)))

    @staticmethod
    def all_states(house):
        """The shelves of all states, by what is filled, and the addresses of which the draw is refused there."""
        shelves, refused, ahead = {frozenset(): Shelf(house)}, {}, [frozenset()]
        while ahead:
            filled = ahead.pop()
            refused[filled] = set()
            for address in house.addresses():
                shelf = shelves[filled].copied()
                if fault_of(lambda: shelf.draw(address)) is not None:
                    refused[filled].add(address)
                elif frozenset(shelf.filled()) not in shelves:
                    shelves[frozenset(shelf.filled())] = shelf
                    ahead.append(frozenset(shelf.filled()))
        return shelves, refused

    def test_there_are_houses_of_many_kinds(self):
        self.assertGreater(sum(len(shelves) > 3 for _, _, shelves, _ in self.houses), 100)
        self.assertGreater(sum(any(refused.values()) for *_, refused in self.houses), 100)
        self.assertGreater(sum(not refused[frozenset()] for *_, refused in self.houses), 100)

    def test_each_name_means_the_same_in_all_states_and_on_demand(self):
        for texts, house, shelves, _ in self.houses:
            told = wells(house)
            for shelf in shelves.values():
                for address in shelf.filled():
                    for name, value in shelf.names(address):
                        self.assertEqual(told[address, name], ("is", value), texts)

    def test_a_part_with_a_name_without_a_meaning_is_filled_in_no_state(self):
        for texts, house, shelves, _ in self.houses:
            without = {key[0] for key, well in wells(house).items() if well[0] != "is"}
            for filled in shelves:
                self.assertEqual(filled & without, set(), texts)

    def test_what_a_part_has_touched_is_the_same_in_all_states(self):
        for texts, _, shelves, _ in self.houses:
            touched = {}
            for shelf in shelves.values():
                for address in shelf.filled():
                    self.assertEqual(touched.setdefault(address, shelf.touched(address)), shelf.touched(address), texts)

    def test_where_more_is_filled_no_draw_fares_worse(self):
        for texts, _, shelves, refused in self.houses:
            for less in shelves:
                for more in shelves:
                    if less <= more:
                        self.assertLessEqual(refused[more], refused[less], texts)

    def test_there_is_one_greatest_state(self):
        for texts, house, shelves, refused in self.houses:
            greatest = max(shelves, key=len)
            for filled in shelves:
                self.assertLessEqual(filled, greatest, texts)
            self.assertEqual(refused[greatest], set(house.addresses()) - greatest, texts)

    def test_any_order_is_good_just_where_no_draw_is_refused_from_the_empty_shelf(self):
        for texts, _, _, refused in self.houses:
            self.assertEqual(not refused[frozenset()], not any(refused.values()), texts)

    def test_a_parent_is_filled_in_each_state_in_which_its_part_is(self):
        for _, _, shelves, _ in self.houses:
            for filled in shelves:
                self.assertLessEqual({one.rpartition(".")[0] for one in filled if "." in one}, filled)

    def test_each_name_is_what_its_row_says_of_the_names_told(self):
        for texts, _, shelves, _ in self.houses:
            shelf = shelves[max(shelves, key=len)]
            telling = Demanding(texts)
            for address in shelf.filled():
                for name, value in shelf.names(address):
                    telling.meanings[address, name] = value
            for address in shelf.filled():
                told = [telling.well(address, row) for row in telling.rows[address] if not row.startswith("need ")]
                self.assertEqual(told, [("is", value) for _, value in shelf.names(address)], texts)

    def test_what_is_seen_is_what_is_bound_ever_after(self):
        for texts, _, shelves, _ in self.houses:
            for shelf in shelves.values():
                for _, log in shelf.logs():
                    for event in log:
                        if event[0] in ("see", "bind"):
                            self.assertEqual(shelf.means(event[1], event[2]), event[3], texts)


if __name__ == "__main__":
    unittest.main()
