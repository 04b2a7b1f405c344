"""Points 39 to 41 and 43, and 6 and 9: what names mean on demand; point 3 of it."""

import random
import unittest

from drawhouse.house import House
from drawhouse.parts import Part
from drawhouse.rows import Deed, Let
from drawhouse.shelf import Shelf
from drawhouse.wells import wells
from telling import Chance, Demanding, bound_in, fault_of, house_of


def well_of(*texts, address="p", name="x"):
    return wells(house_of(*texts))[address, name]


class Rows(unittest.TestCase):
    def assert_wells(self, texts, told):
        self.assertEqual(list(wells(house_of(*texts)).items()), list(told.items()))

    def assert_is(self, value, *texts):
        self.assertEqual(well_of(*texts), ("is", value))

    def test_a_house_without_parts_and_parts_without_rows(self):
        self.assertEqual(wells(House([])), {})
        self.assertEqual(wells(house_of("part a", "part a.b", "part c\nneed z")), {})

    def test_let(self):
        self.assert_is(3, "part p\nlet x be 1 + 2")
        self.assert_is(-1, "part p\ndraw q as q\nlet x be q.n - q.n - 1", "part q\nlet n be 5")
        self.assert_is(("part", "q"), "part p\ndraw q as q\nlet x be q", "part q")
        self.assert_is(("deed", "p", "f", "z"), "part p\ndeed f be z\nlet x be f")

    def test_no_row_goes_ahead_of_another_one(self):
        self.assert_is(1, "part p\nlet x be y\nlet y be k.z\ndraw q as k", "part q\nlet z be w\nlet w be 1")

    def test_deed_and_late_whatever_these_name(self):
        self.assert_is(("deed", "p", "x", "z.y + 2 - x"), "part p\ndeed x be z.y + 2 - x")
        self.assert_is(("late", "z.y"), "part p\nlate z.y as x")
        self.assert_is(("late", "p"), "part p\nlate p as x")

    def test_draw(self):
        self.assert_is(("part", "a.b"), "part p\ndraw a.b as x", "part a\nneed z", "part a.b\nlet z be z")
        self.assert_is(("part", "p"), "part p\ndraw p as x")
        self.assertEqual(well_of("part p\ndraw z as x"), ("fault", "unknown", "z", ""))
        self.assertEqual(well_of("part p\ndraw z.y.w as x"), ("fault", "unknown", "z", ""))
        self.assertEqual(well_of("part p\ndraw a.z.y as x", "part a"), ("fault", "unknown", "a.z", ""))
        self.assertEqual(well_of("part p\ndraw a.b.z as x", "part a", "part a.b"), ("fault", "unknown", "a.b.z", ""))

    def test_take(self):
        self.assert_is(("part", "a.b"), "part p\ntake b from a as x", "part a", "part a.b\nlet z be z")
        self.assert_is(4, "part p\ntake n from a as x", "part a\nlet n be 4", "part a.b")
        self.assert_is(5, "part p\ntake n from a.b.c as x", "part a", "part a.b", "part a.b.c\nlet n be 5")
        self.assert_is(("part", "q"), "part p\ntake l from a as x", "part a\nlate q as l", "part q")
        self.assert_is(("deed", "a", "f", "1"), "part p\ntake f from a as x", "part a\ndeed f be 1")

    def test_take_that_faults_or_waits(self):
        self.assertEqual(well_of("part p\ntake n from a.z as x", "part a"), ("fault", "unknown", "a.z", ""))
        self.assertEqual(well_of("part p\ntake n from a as x", "part a"), ("fault", "missing", "a", "n"))
        self.assertEqual(well_of("part p\ntake x from p as x"), ("waits", "p", "x"))
        self.assertEqual(well_of("part p\ntake n from a as x", "part a\nlet n be m"), ("waits", "a", "n"))
        texts = ["part p\ntake l from a as x", "part a\nlate z.y as l"]
        self.assertEqual(well_of(*texts), ("fault", "unknown", "z", ""))

    def test_a_need_has_no_well_and_bars_no_name(self):
        self.assert_wells(["part p\nneed z\nlet x be 1\nneed x.y"], {("p", "x"): ("is", 1)})

    def test_a_part_beneath_is_no_name_of_its_parent(self):
        self.assertEqual(well_of("part p\nlet x be q", "part p.q"), ("fault", "missing", "p", "q"))

    def test_rows_made_by_hand(self):
        terms = [(1, "number", 2)] * 9
        house = House([Part("p", [Let("x", [(1, "call", ("f",))]), Deed("f", terms)])])
        self.assertEqual(wells(house)["p", "x"], ("is", 18))


class Reads(unittest.TestCase):
    def test_a_late_hold_read(self):
        self.assertEqual(well_of("part p\nlate q as l\nlet x be l", "part q\nlet z be z"), ("is", ("part", "q")))
        self.assertEqual(well_of("part p\nlate q as l\nlet x be l.n", "part q\nlet n be 1"), ("is", 1))
        for row in ("let x be l", "let x be l.n", "let x be l()", "let x be 1 + l", "take l from p as x"):
            self.assertEqual(well_of("part p\nlate a.z.y as l\n" + row, "part a"), ("fault", "unknown", "a.z", ""))

    def test_faults_of_paths_calls_and_expressions(self):
        others = ["part q\nlet n be 1\nlate r as r\ndeed f be r\ndeed g be 1 + r\ndeed h be n.n", "part r"]
        for text, told in (
            ("z", ("missing", "p", "z")), ("q.z", ("missing", "q", "z")), ("q.r.n", ("missing", "r", "n")),
            ("q.n.n", ("nopart", "q", "n")), ("q.f.n", ("nopart", "q", "f")), ("q.n.n()", ("nopart", "q", "n")),
            ("q.n()", ("nodeed", "q", "n")), ("q()", ("nodeed", "p", "q")), ("q.r()", ("nodeed", "q", "r")),
            ("1 + q", ("nonumber", "p", "q")), ("q.r + z", ("nonumber", "q", "r")), ("q.f - 1", ("nonumber", "q", "f")),
            ("1 + q.f()", ("nonumber", "q", "f")), ("q.g()", ("nonumber", "q", "r")), ("q.h()", ("nopart", "q", "n")),
            ("z + x", ("missing", "p", "z")),
        ):
            with self.subTest(text=text):
                self.assertEqual(well_of(f"part p\ndraw q as q\nlet x be {text}", *others), ("fault", *told))

    def test_calls(self):
        others = ["part q\nlet n be 1\nlate r as r\ndeed f be r\ndeed g be n + n", "part r"]
        self.assertEqual(well_of("part p\ndraw q as q\nlet x be q.g() - 5", *others), ("is", -3))
        self.assertEqual(well_of("part p\ndraw q as q\nlet x be q.f()", *others), ("is", ("part", "r")))
        self.assertEqual(well_of("part p\ntake g from q as h\nlet x be h()", *others), ("is", 2))
        self.assertEqual(well_of("part p\ndeed f be 7\nlet x be f()"), ("is", 7))

    def test_it_waits_for_the_first_name_without_a_meaning(self):
        for text, told in (
            ("x", ("p", "x")), ("q.w", ("q", "w")), ("1 + q.n + q.w + z", ("q", "w")), ("q.w.z", ("q", "w")),
            ("q.w()", ("q", "w")), ("q.f()", ("q", "w")), ("q.n + x - z", ("p", "x")),
        ):
            with self.subTest(text=text):
                texts = [f"part p\ndraw q as q\nlet x be {text}", "part q\nlet n be 1\nlet w be w\ndeed f be n + w"]
                self.assertEqual(well_of(*texts), ("waits", *told))

    def test_it_waits_for_what_faults(self):
        told = wells(house_of("part p\nlet x be y\nlet y be z\nlet w be x + 1"))
        self.assertEqual(told, {
            ("p", "x"): ("waits", "p", "y"), ("p", "y"): ("fault", "missing", "p", "z"),
            ("p", "w"): ("waits", "p", "x"),
        })

    def test_rings(self):
        self.assertEqual(wells(house_of("part p\nlet x be x")), {("p", "x"): ("waits", "p", "x")})
        texts = ["part p\ndraw q as q\nlet x be q.y", "part q\ndraw p as p\nlet y be p.x"]
        told = wells(house_of(*texts))
        self.assertEqual((told["p", "x"], told["q", "y"]), (("waits", "q", "y"), ("waits", "p", "x")))
        self.assertEqual((told["p", "q"], told["q", "p"]), (("is", ("part", "q")), ("is", ("part", "p"))))

    def test_a_ring_of_twelve(self):
        letters = "abcdefghijkl"
        pairs = list(zip(letters, letters[1:] + "a"))
        told = wells(house_of(*[f"part {one}\nlet x be o.x\ndraw {other} as o" for one, other in pairs]))
        self.assertEqual([told[one, "x"] for one in letters], [("waits", other, "x") for _, other in pairs])
        rows = "let x be o.y + 1\nlet y be"
        texts = [f"part {one}\n{rows} {at}\ndraw {other} as o" for at, (one, other) in enumerate(pairs)]
        told = wells(house_of(*texts))
        self.assertEqual([told[one, "x"] for one in letters], [("is", at + 2) for at in range(11)] + [("is", 1)])

    def test_a_long_line_the_other_way_round(self):
        """Each of 132 names waits for the one behind it, through all parts, until the last one has its meaning."""
        letters = "abcdefghijkl"
        texts = []
        for one, other in zip(letters, letters[1:] + "a"):
            rows = [f"let {name} be 0 + {behind}" for name, behind in zip(letters, letters[1:-1])]
            last = "let k be 1" if one == "l" else "let k be 1 + m.a"
            texts.append("\n".join([f"part {one}", *rows, last, f"draw {other} as m"]))
        told = wells(house_of(*texts))
        self.assertEqual(len(told), 144)
        self.assertEqual([told[one, "a"] for one in letters], [("is", 12 - at) for at in range(12)])

    def test_a_name_with_a_meaning_that_no_state_binds(self):
        house = house_of("part p\ndraw q as q\nlet x be q.y", "part q\ndraw p as p\nlet y be 1\nneed p.x")
        self.assertEqual({well[0] for well in wells(house).values()}, {"is"})
        self.assertIsNotNone(fault_of(lambda: Shelf(house).draw("p")))
        self.assertIsNotNone(fault_of(lambda: Shelf(house).draw("q")))


class TheDict(unittest.TestCase):
    TEXTS = ["part b\nlet z be 1\nlet a be 2\nneed a\nlate b as m", "part a.b\nlet x be 3", "part a\ndraw z as k"]

    def test_keys_of_parts_told_the_other_way_round(self):
        keys = [("a", "k"), ("a.b", "x"), ("b", "z"), ("b", "a"), ("b", "m")]
        for texts in (self.TEXTS, self.TEXTS[::-1]):
            told = wells(house_of(*texts))
            self.assertEqual(list(told), keys)
            self.assertEqual(list(told.values()), [
                ("fault", "unknown", "z", ""), ("is", 3), ("is", 1), ("is", 2), ("is", ("late", "b")),
            ])

    def test_the_order_of_keys_whichever_came_to_its_meaning_first(self):
        texts = ["part b\nlet x be y\nlet y be c.z\ndraw a as c", "part a\nlet w be z\nlet z be 1"]
        self.assertEqual(list(wells(house_of(*texts))), [("a", "w"), ("a", "z"), ("b", "x"), ("b", "y"), ("b", "c")])

    def test_the_kinds(self):
        told = wells(house=house_of(*self.TEXTS))
        self.assertIs(type(told), dict)
        self.assertEqual({type(thing) for item in told.items() for thing in item}, {tuple})

    def test_what_is_told_is_ones_own(self):
        house = house_of(*self.TEXTS)
        first = wells(house)
        kept = dict(first)
        first.clear()
        self.assertEqual(wells(house), kept)

    def test_the_house_is_not_changed(self):
        house = house_of(*self.TEXTS)
        told = [(part, part.text()) for part in house.told]
        wells(house)
        self.assertEqual([(part, part.text()) for part in house.told], told)


def shuffled_rows(text, chance):
    head, *rows = text.split("\n")
    chance.shuffle(rows)
    return "\n".join([head, *rows])


class ByChance(unittest.TestCase):
    @classmethod
    def setUpClass(cls):
        cls.houses = [Chance(seed).texts() for seed in range(800)]
        cls.great = [Chance(seed, 12, 10).texts() for seed in range(40)]

    def test_against_a_second_telling(self):
        met = {}
        chance = random.Random(1)
        for texts in self.houses + self.great:
            told = wells(house_of(*texts))
            expected = Demanding(texts).wells(lambda rows: chance.sample(rows, len(rows)))
            self.assertEqual(list(told.items()), list(expected.items()), texts)
            for well in told.values():
                word = well[1] if well[0] == "fault" else well[0]
                met[word] = met.get(word, 0) + 1
        self.assertEqual(set(met), {"is", "waits", "unknown", "missing", "nopart", "nodeed", "nonumber"})
        self.assertGreater(min(met.values()), 10)

    def test_the_order_of_parts_and_rows_is_all_one(self):
        chance = random.Random(2)
        for texts in self.houses + self.great:
            others = [shuffled_rows(text, chance) for text in chance.sample(texts, len(texts))]
            self.assertEqual(wells(house_of(*texts)), wells(house_of(*others)), texts)

    def test_parts_beside_are_all_one(self):
        for texts in [texts for texts in self.houses if len(texts) < 11]:
            told = wells(house_of(*texts))
            more = wells(house_of("part w\nlet x be 1\ndraw a as y\nlet z be y.k", *texts, "part w.w"))
            self.assertEqual({key: well for key, well in more.items() if key[0] != "w"}, told, texts)

    def test_in_every_state_each_name_is_bound_to_its_meaning(self):
        for seed, texts in enumerate(self.houses + self.great):
            house = house_of(*texts)
            told = wells(house)
            shelf = Shelf(house)
            for address in Chance(seed).draws(texts, 8):
                fault_of(lambda: shelf.draw(address))
            for address in shelf.filled():
                self.assertEqual(
                    [(name, ("is", value)) for name, value in shelf.names(address)],
                    [(name, well) for (one, name), well in told.items() if one == address], texts)

    def test_what_has_a_meaning_is_what_its_row_says(self):
        for texts in self.houses:
            told = wells(house_of(*texts))
            telling = Demanding(texts)
            telling.meanings = {key: well[1] for key, well in told.items() if well[0] == "is"}
            for address, rows in telling.rows.items():
                for row in rows:
                    if not row.startswith("need "):
                        self.assertEqual(telling.well(address, row), told[address, bound_in(row)], texts)


if __name__ == "__main__":
    unittest.main()
