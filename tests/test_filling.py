"""Points 24, 26 to 31 and 33: steps, expressions, rows, faults, events, what was touched; point 3 of them."""

import unittest

from drawhouse.errors import Fault, HouseError
from drawhouse.filling import Filling
from drawhouse.house import House
from drawhouse.links import leads
from drawhouse.parts import Part
from drawhouse.rows import Deed, Let, Need
from telling import Chance, Telling, fault_of, house_of

SIX_NUMBERS = [
    (1, "number", 5), (-1, "number", 7), (1, "number", 1), (1, "number", 0), (-1, "number", 9), (1, "number", 3),
]


class Fillings(unittest.TestCase):
    def drawn(self, *texts, first="p"):
        """A filling of the house that the texts tell, behind the draw of the first address."""
        filling = Filling(house_of(*texts))
        filling.draw_step(first)
        return filling

    def assert_names(self, filling, address, **names):
        self.assertEqual(filling.names(address), list(names.items()))

    def assert_log(self, log, *events):
        self.assertEqual(log, list(events))

    def assert_fault(self, texts, word, trail, whose, name, first="p"):
        filling = Filling(house_of(*texts))
        self.assertEqual(fault_of(lambda: filling.draw_step(first)), (word, trail, whose, name))


class DrawSteps(Fillings):
    def test_a_part_without_rows(self):
        filling = self.drawn("part p")
        self.assert_log(filling.log(), ("begin", "p"), ("end", "p"))
        self.assertEqual((filling.filled(), filling.names("p"), filling.touched("p")), (["p"], [], []))

    def test_prefixes_the_shortest_one_first(self):
        filling = self.drawn("part a.b.c", "part a.b\nlet x be 1", "part a", first="a.b.c")
        self.assert_log(
            filling.log(), ("begin", "a"), ("end", "a"), ("begin", "a.b"), ("row", "a.b", 0), ("bind", "a.b", "x", 1),
            ("end", "a.b"), ("begin", "a.b.c"), ("end", "a.b.c"),
        )
        self.assertEqual(filling.filled(), ["a", "a.b", "a.b.c"])

    def test_what_stands_there_is_left_as_it_is(self):
        filling = self.drawn("part a.b.c", "part a.b", "part a", first="a.b").copied()
        filling.draw_step("a.b.c")
        self.assert_log(filling.log(), ("there", "a"), ("there", "a.b"), ("begin", "a.b.c"), ("end", "a.b.c"))
        again = filling.copied()
        again.draw_step("a.b.c")
        self.assert_log(again.log(), ("there", "a"), ("there", "a.b"), ("there", "a.b.c"))
        self.assertEqual(again.filled(), ["a", "a.b", "a.b.c"])

    def test_one_that_is_filling_is_left_as_it_is(self):
        filling = self.drawn("part p\nlet x be 1\ndraw q as q", "part q\ndraw p as p\nlet y be p.x")
        self.assert_log(
            filling.log(), ("begin", "p"), ("row", "p", 0), ("bind", "p", "x", 1), ("row", "p", 1), ("begin", "q"),
            ("row", "q", 0), ("there", "p"), ("bind", "q", "p", ("part", "p")), ("row", "q", 1),
            ("see", "q", "p", ("part", "p")), ("see", "p", "x", 1), ("bind", "q", "y", 1), ("end", "q"),
            ("bind", "p", "q", ("part", "q")), ("end", "p"),
        )
        self.assertEqual(filling.filled(), ["q", "p"])

    def test_a_part_that_draws_itself(self):
        filling = self.drawn("part p\ndraw p as p\nlet x be p.p.p.p")
        self.assert_names(filling, "p", p=("part", "p"), x=("part", "p"))

    def test_a_parent_that_draws_its_child(self):
        texts = ["part p\nlet x be 1\ndraw p.q as k", "part p.q\ndraw p as p\nlet y be p.x + 1"]
        filling = self.drawn(*texts, first="p.q")
        self.assert_names(filling, "p.q", p=("part", "p"), y=2)
        self.assertEqual(filling.filled(), ["p.q", "p"])
        self.assertEqual(filling.log()[-1], ("there", "p.q"))

    def test_unknown_by_a_draw_alone(self):
        for address, whose in (
            ("z", "z"), ("z.y", "z"), ("z.y.x", "z"), ("p.z", "p.z"), ("p.z.y", "p.z"), ("p.q.z", "p.q.z"),
        ):
            self.assert_fault(["part p", "part p.q"], "unknown", [], whose, "", first=address)
        self.assert_fault([], "unknown", [], "a", "", first="a")

    def test_unknown_behind_a_prefix_that_was_filled(self):
        filling = Filling(house_of("part a\nlet x be 1", "part p\nneed 1\ndraw a.z.y as z"))
        self.assertEqual(fault_of(lambda: filling.draw_step("p")), ("unknown", [("p", 1)], "a.z", ""))
        self.assertEqual(filling.log()[-2:], [("bind", "a", "x", 1), ("end", "a")])

    def test_a_fault_of_a_prefix_goes_ahead_of_an_unknown_one(self):
        self.assert_fault(["part a\nneed x"], "missing", [("a", 0)], "a", "x", first="a.b")


class ReadSteps(Fillings):
    def test_what_is_bound(self):
        self.assert_names(self.drawn("part p\nlet x be 3\nlet y be x"), "p", x=3, y=3)

    def test_missing(self):
        self.assert_fault(["part p\nneed 1\nneed x"], "missing", [("p", 1)], "p", "x")
        self.assert_fault(["part p\ndraw q as q\nneed q.x", "part q"], "missing", [("p", 1)], "q", "x")

    def test_a_part_is_no_name_of_its_parent(self):
        self.assert_fault(["part p\ndraw p.q as k\nneed q", "part p.q"], "missing", [("p", 1)], "p", "q")

    def test_unfilled(self):
        self.assert_fault(["part p\nlet x be y\nlet y be 1"], "unfilled", [("p", 0)], "p", "y")
        self.assert_fault(["part p\nlet x be x"], "unfilled", [("p", 0)], "p", "x")
        for row in ("deed y be 1", "draw q as y", "late q as y", "take x from q as y", "let y be 1"):
            self.assert_fault(["part p\nneed y\n" + row, "part q\nlet x be 1"], "unfilled", [("p", 0)], "p", "y")

    def test_unfilled_in_a_ring(self):
        texts = ["part p\ndraw q as q\nlet x be 1", "part q\nneed 1\ndraw p as p\nneed p.x"]
        self.assert_fault(texts, "unfilled", [("p", 0), ("q", 2)], "p", "x")
        self.assertEqual(self.drawn(*texts, first="q").filled(), ["p", "q"])

    def test_of_a_part_that_is_filled_a_name_is_never_unfilled(self):
        texts = ["part p\ndraw q as q\nneed q.z", "part q\nlet x be 1"]
        self.assert_fault(texts, "missing", [("p", 1)], "q", "z")

    def test_a_late_hold_is_drawn_when_it_is_read(self):
        filling = self.drawn("part p\nlate q as q\nlet y be q.x", "part q\nlet x be 4")
        self.assert_log(
            filling.log(), ("begin", "p"), ("row", "p", 0), ("bind", "p", "q", ("late", "q")), ("row", "p", 1),
            ("see", "p", "q", ("late", "q")), ("begin", "q"), ("row", "q", 0), ("bind", "q", "x", 4), ("end", "q"),
            ("see", "q", "x", 4), ("bind", "p", "y", 4), ("end", "p"),
        )
        self.assert_names(filling, "p", q=("late", "q"), y=4)

    def test_a_late_hold_that_nobody_reads(self):
        filling = self.drawn("part p\nlate q as q\nlate z.y as z", "part q")
        self.assert_names(filling, "p", q=("late", "q"), z=("late", "z.y"))
        self.assertEqual((filling.filled(), filling.touched("p")), (["p"], []))

    def test_what_comes_out_is_never_a_late_hold(self):
        texts = [
            "part p\nlate a.b as l\nlet x be l\ndraw q as q\nlet y be q.t", "part q\ntake l from p as t", "part a",
            "part a.b",
        ]
        filling = self.drawn(*texts)
        self.assert_names(
            filling, "p", l=("late", "a.b"), x=("part", "a.b"), q=("part", "q"), y=("part", "a.b"))
        self.assert_names(filling, "q", t=("part", "a.b"))
        self.assertEqual(filling.filled(), ["a", "a.b", "q", "p"])

    def test_a_late_hold_read_once_more_stands_there(self):
        filling = self.drawn("part p\nlate a.b as l\nneed l\nneed l", "part a", "part a.b")
        self.assert_log(
            filling.log()[-5:], ("row", "p", 2), ("see", "p", "l", ("late", "a.b")), ("there", "a"), ("there", "a.b"),
            ("end", "p"),
        )

    def test_a_late_hold_of_one_that_is_filling(self):
        filling = self.drawn("part p\nlet x be 1\ndraw q as q", "part q\nlate p as p\nlet y be p.x")
        self.assertIn(("see", "q", "p", ("late", "p")), filling.log())
        self.assert_names(filling, "q", p=("late", "p"), y=1)

    def test_a_late_hold_of_an_unknown_part(self):
        for row in ("need l", "let x be l.x", "let x be l + 1", "let x be l()", "take l from p as x"):
            self.assert_fault(["part p\nlate a.z.y as l\n" + row, "part a"], "unknown", [("p", 1)], "a.z", "")
        filling = Filling(house_of("part p\nlate z as l\nneed l"))
        self.assertIsNotNone(fault_of(lambda: filling.draw_step("p")))
        self.assertEqual(filling.log()[-1], ("see", "p", "l", ("late", "z")))


class Expressions(Fillings):
    def test_one_term_of_whatever_kind(self):
        filling = self.drawn(
            "part p\ndeed f be 1\ndraw q as q\nlet a be 12\nlet b be q\nlet c be f\nlet d be q.q\nlet e be q.g()\n"
            "let h be q.k()",
            "part q\ndraw q as q\ndeed g be q\ndeed k be g",
        )
        self.assertEqual(filling.names("p")[2:], [
            ("a", 12), ("b", ("part", "q")), ("c", ("deed", "p", "f", "1")), ("d", ("part", "q")), ("e", ("part", "q")),
            ("h", ("deed", "q", "g", "q")),
        ])

    def test_several_terms_are_added_and_taken_off(self):
        filling = self.drawn(
            "part p\nlet x be 5\nlet y be 1 - x\nlet z be x - y + 2 - x + 0 - 100\ndeed f be y\nlet w be f() - f()")
        self.assert_names(filling, "p", x=5, y=-4, z=-94, f=("deed", "p", "f", "y"), w=0)

    def test_beyond_twenty_figures(self):
        filling = self.drawn("part p\nlet x be " + "9" * 20 + "\nlet y be x + x + x + x + x + x\nlet z be 0 - y - y")
        self.assertEqual(dict(filling.names("p"))["z"], -12 * (10 ** 20 - 1))

    def test_paths_of_four_names(self):
        texts = ["part p\ndraw q as q\nlet x be q.r.q.y", "part q\ndraw r as r\nlet y be 8", "part r\nlate q as q"]
        filling = self.drawn(*texts)
        self.assertEqual(dict(filling.names("p"))["x"], 8)

    def test_nopart(self):
        self.assert_fault(["part p\nlet x be 1\nneed x.y"], "nopart", [("p", 1)], "p", "x")
        self.assert_fault(["part p\ndeed f be 1\nneed f.y"], "nopart", [("p", 1)], "p", "f")
        texts = ["part p\ndraw q as q\nneed 1 + q.x.y.z", "part q\nlet x be 1"]
        self.assert_fault(texts, "nopart", [("p", 1)], "q", "x")
        self.assert_fault(["part p\nlet x be 1\nneed x.y()"], "nopart", [("p", 1)], "p", "x")

    def test_nodeed(self):
        self.assert_fault(["part p\nlet x be 1\nneed x()"], "nodeed", [("p", 1)], "p", "x")
        self.assert_fault(["part p\ndraw p as x\nneed x()"], "nodeed", [("p", 1)], "p", "x")
        self.assert_fault(["part p\nlate q as x\nneed x()", "part q"], "nodeed", [("p", 1)], "p", "x")
        texts = ["part p\ndraw q as q\nneed q.q.x()", "part q\ndraw q as q\nlet x be 1"]
        self.assert_fault(texts, "nodeed", [("p", 1)], "q", "x")

    def test_what_a_call_comes_to_is_not_called(self):
        filling = self.drawn("part p\ndeed f be 1\ndeed g be f\nlet x be g()\nlet y be x()")
        self.assertEqual(filling.names("p")[2:], [("x", ("deed", "p", "f", "1")), ("y", 1)])

    def test_nonumber(self):
        for row in ("let x be q + 1", "let x be 1 + q", "let x be 1 - q + z", "need q - q"):
            self.assert_fault(["part p\ndraw q as q\n" + row, "part q"], "nonumber", [("p", 1)], "p", "q")
        self.assert_fault(["part p\ndeed f be 1\nneed f + 1"], "nonumber", [("p", 1)], "p", "f")
        self.assert_fault(["part p\nlate q as l\nneed l + 1", "part q"], "nonumber", [("p", 1)], "p", "l")
        texts = ["part p\ndraw q as q\nneed 1 + q.q.q", "part q\ndraw q as q"]
        self.assert_fault(texts, "nonumber", [("p", 1)], "q", "q")

    def test_nonumber_of_a_call_is_told_of_its_own_path(self):
        texts = ["part p\ndraw q as q\nlet x be 1 + q.f()", "part q\nlate r as r\ndeed f be r.s", "part r\ndraw r as s"]
        self.assert_fault(texts, "nonumber", [("p", 1)], "q", "f")
        self.assert_fault(["part p\ndraw p as p\ndeed f be p\nneed f() + 1"], "nonumber", [("p", 2)], "p", "f")

    def test_as_soon_as_a_term_is_no_number(self):
        filling = Filling(house_of("part p\ndraw q as q\nlate r as r\nneed 1 + q + r.x", "part q", "part r"))
        self.assertEqual(fault_of(lambda: filling.draw_step("p")), ("nonumber", [("p", 2)], "p", "q"))
        self.assertEqual(filling.log()[-1], ("see", "p", "q", ("part", "q")))

    def test_from_the_left(self):
        self.assert_fault(["part p\nlate z as z\nneed y + z"], "missing", [("p", 1)], "p", "y")
        self.assert_fault(["part p\nlate z as z\nneed z + y"], "unknown", [("p", 1)], "z", "")

    def test_whoever_was_read_last_for_the_path_whatever_was_read_within(self):
        texts = ["part p\nlate q as l\nneed l + 1", "part q\nlet x be 1\nlet y be x"]
        self.assert_fault(texts, "nonumber", [("p", 1)], "p", "l")


class Deeds(Fillings):
    def test_a_deed_is_bound_and_not_evaluated(self):
        filling = self.drawn("part p\ndeed f be z.y + 2 - x")
        self.assert_names(filling, "p", f=("deed", "p", "f", "z.y + 2 - x"))
        self.assert_log(filling.log()[1:-1], ("row", "p", 0), ("bind", "p", "f", ("deed", "p", "f", "z.y + 2 - x")))

    def test_it_is_evaluated_in_its_part_each_time(self):
        texts = [
            "part p\nlet x be 100\ndraw q as q\nlet y be q.f()\nlet z be q.f() + q.f()",
            "part q\nlet x be 1\ndeed f be x + x",
        ]
        filling = self.drawn(*texts)
        self.assertEqual(filling.names("p")[2:], [("y", 2), ("z", 4)])
        log = filling.log()
        self.assert_log(
            log[log.index(("row", "p", 2)) + 1:log.index(("row", "p", 3))], ("see", "p", "q", ("part", "q")),
            ("see", "q", "f", ("deed", "q", "f", "x + x")), ("call", "q", "f"), ("see", "q", "x", 1),
            ("see", "q", "x", 1), ("back", 2), ("bind", "p", "y", 2),
        )
        self.assertEqual(filling.log().count(("call", "q", "f")), 3)

    def test_what_it_reads_need_not_be_there_when_it_is_bound(self):
        filling = self.drawn("part p\ndeed f be x\nlet x be 7\nlet y be f()")
        self.assertEqual(filling.names("p")[1:], [("x", 7), ("y", 7)])

    def test_under_another_name_in_another_part(self):
        texts = [
            "part p\ntake g from q as h\nlet x be h()", "part q\ntake f from r as g", "part r\nlet k be 5\ndeed f be k",
        ]
        filling = self.drawn(*texts)
        self.assert_names(filling, "p", h=("deed", "r", "f", "k"), x=5)
        self.assert_log(
            filling.log()[-6:], ("see", "p", "h", ("deed", "r", "f", "k")), ("call", "r", "f"), ("see", "r", "k", 5),
            ("back", 5), ("bind", "p", "x", 5), ("end", "p"),
        )

    def test_a_deed_of_a_part_that_is_filling(self):
        texts = ["part p\nlet x be 2\ndeed f be x + y\ndraw q as q\nlet y be 1", "part q\ndraw p as p\nlet k be p.f()"]
        self.assert_fault(texts, "unfilled", [("p", 2), ("q", 1)], "p", "y")
        texts = ["part p\nlet x be 2\ndeed f be x\ndraw q as q", "part q\ndraw p as p\nlet k be p.f()"]
        self.assertEqual(dict(self.drawn(*texts).names("q"))["k"], 2)

    def test_faults_within_a_deed_are_told_of_its_part(self):
        for expression, word, name in (
            ("z", "missing", "z"), ("x.y", "nopart", "x"), ("r + 1", "nonumber", "r"), ("1 - g", "nonumber", "g"),
        ):
            texts = [
                "part p\ndraw q as q\nlet y be 1 + q.f()",
                f"part q\nlet x be 1\ndeed g be 1\ndraw r as r\ndeed f be {expression}", "part r",
            ]
            self.assert_fault(texts, word, [("p", 1)], "q", name)

    def test_an_unknown_part_within_a_deed(self):
        texts = ["part p\ndraw q as q\nneed q.f()", "part q\nlate z.y as l\ndeed f be l"]
        self.assert_fault(texts, "unknown", [("p", 1)], "z", "")

    def test_a_deed_that_draws(self):
        texts = ["part p\ndraw q as q\nneed q.f()", "part q\nlate r as l\ndeed f be l.x", "part r\nlet x be 1\nneed z"]
        self.assert_fault(texts, "missing", [("p", 1), ("r", 1)], "r", "z")

    def test_of_more_terms_than_are_read(self):
        rows = [Deed("f", SIX_NUMBERS + [(1, "number", 50)]), Let("x", [(1, "call", ("f",))])]
        filling = Filling(House([Part("p", rows)]))
        filling.draw_step("p")
        self.assertEqual(filling.names("p")[1], ("x", 43))


class Rows(Fillings):
    def test_let_and_need(self):
        filling = self.drawn("part p\nlet x be 1\nneed x\nneed x - 5\nlet y be x")
        self.assert_log(
            filling.log(), ("begin", "p"), ("row", "p", 0), ("bind", "p", "x", 1), ("row", "p", 1),
            ("see", "p", "x", 1), ("row", "p", 2), ("see", "p", "x", 1), ("row", "p", 3), ("see", "p", "x", 1),
            ("bind", "p", "y", 1), ("end", "p"),
        )
        self.assert_names(filling, "p", x=1, y=1)

    def test_a_need_may_come_to_anything(self):
        filling = self.drawn("part p\ndraw q as q\ndeed f be q\nneed q\nneed f\nneed f()", "part q")
        self.assertEqual(filling.filled(), ["q", "p"])

    def test_draw(self):
        filling = self.drawn("part p\ndraw a.b as x", "part a", "part a.b")
        self.assert_log(
            filling.log(), ("begin", "p"), ("row", "p", 0), ("begin", "a"), ("end", "a"), ("begin", "a.b"),
            ("end", "a.b"), ("bind", "p", "x", ("part", "a.b")), ("end", "p"),
        )

    def test_take_of_a_name(self):
        filling = self.drawn("part p\ntake w from a.b as x", "part a", "part a.b\nlet w be 3")
        self.assert_log(
            filling.log(), ("begin", "p"), ("row", "p", 0), ("begin", "a"), ("end", "a"), ("begin", "a.b"),
            ("row", "a.b", 0), ("bind", "a.b", "w", 3), ("end", "a.b"), ("see", "a.b", "w", 3), ("bind", "p", "x", 3),
            ("end", "p"),
        )

    def test_take_of_a_part(self):
        filling = self.drawn("part p\ntake b from a as x", "part a", "part a.b")
        self.assert_log(
            filling.log(), ("begin", "p"), ("row", "p", 0), ("begin", "a"), ("end", "a"), ("there", "a"),
            ("begin", "a.b"), ("end", "a.b"), ("bind", "p", "x", ("part", "a.b")), ("end", "p"),
        )

    def test_take_of_each_kind_of_value(self):
        texts = [
            "part p\ntake f from q as a\ntake d from q as b\ntake l from q as c\ntake n from q as d",
            "part q\ndeed f be n\ndraw r as d\nlate r as l\nlet n be 0 - 1", "part r",
        ]
        self.assert_names(self.drawn(*texts), "p", a=("deed", "q", "f", "n"), b=("part", "r"), c=("part", "r"), d=-1)

    def test_take_behind_three_names(self):
        texts = ["part a", "part a.b", "part a.b.c\nlet d be 6", "part p\ntake d from a.b.c as x"]
        self.assert_names(self.drawn(*texts), "p", x=6)

    def test_take_of_itself(self):
        self.assert_names(self.drawn("part p\nlet x be 1\ntake x from p as y"), "p", x=1, y=1)
        self.assert_fault(["part p\ntake y from p as y"], "unfilled", [("p", 0)], "p", "y")

    def test_take_refused(self):
        self.assert_fault(["part p\ntake w from q as x", "part q"], "missing", [("p", 0)], "q", "w")
        self.assert_fault(["part p\ntake w from z as x"], "unknown", [("p", 0)], "z", "")
        self.assert_fault(["part p\ntake w from q.z as x", "part q"], "unknown", [("p", 0)], "q.z", "")
        texts = ["part p\ntake q from a as x", "part a", "part a.q\nneed 1\nneed z"]
        self.assert_fault(texts, "missing", [("p", 0), ("a.q", 1)], "a.q", "z")

    def test_a_part_beneath_is_not_drawn_by_its_parent(self):
        self.assertEqual(self.drawn("part p", "part p.q").filled(), ["p"])

    def test_twelve_rows(self):
        rows = "".join(f"\nlet {name} be {at}" for at, name in enumerate("abcdefghijkl"))
        self.assertEqual(self.drawn("part p" + rows).names("p"), [(name, at) for at, name in enumerate("abcdefghijkl")])

    def test_rows_made_by_hand(self):
        filling = Filling(House([Part("p", [Let("x", SIX_NUMBERS), Need([(1, "path", ("x",))])])]))
        filling.draw_step("p")
        self.assert_names(filling, "p", x=-7)


class Faults(Fillings):
    CHAIN = ["part a\nneed 1\ndraw b as b", "part b\ndraw c as c", "part c\nneed 1\nneed 2\nlet x be z"]

    def test_the_trail_of_parts_that_are_filling(self):
        self.assert_fault(self.CHAIN, "missing", [("a", 1), ("b", 0), ("c", 2)], "c", "z", first="a")
        self.assert_fault(self.CHAIN, "missing", [("b", 0), ("c", 2)], "c", "z", first="b")

    def test_parts_that_are_filled_by_then_are_not_on_it(self):
        texts = ["part p\ndraw q as q\ndraw r as r\nneed z", "part q", "part r\ndraw q as q"]
        self.assert_fault(texts, "missing", [("p", 2)], "p", "z")

    def test_the_class_and_its_fields(self):
        filling = Filling(house_of("part p\nneed z"))
        with self.assertRaises(Fault) as taken:
            filling.draw_step("p")
        self.assertIs(type(taken.exception), Fault)
        self.assertIsInstance(taken.exception, HouseError)
        self.assertIs(type(taken.exception.trail), list)
        self.assertEqual([type(one) for one in taken.exception.trail], [tuple])

    def test_the_trail_is_its_own(self):
        filling = Filling(house_of("part p\nneed z"))
        with self.assertRaises(Fault) as taken:
            filling.draw_step("p")
        kept = filling.trail_now()
        taken.exception.trail.clear()
        kept.append("z")
        self.assertEqual(filling.trail_now(), [("p", 0)])

    def test_the_events_ahead_of_it_are_there(self):
        filling = Filling(house_of(*self.CHAIN))
        self.assertIsNotNone(fault_of(lambda: filling.draw_step("b")))
        self.assert_log(
            filling.log(), ("begin", "b"), ("row", "b", 0), ("begin", "c"), ("row", "c", 0), ("row", "c", 1),
            ("row", "c", 2),
        )

    def test_the_one_from_ahead_is_as_it_was(self):
        first = self.drawn("part a\nlet x be 1", *self.CHAIN[1:], first="a")
        trial = first.copied()
        self.assertIsNotNone(fault_of(lambda: trial.draw_step("b")))
        self.assertEqual((first.filled(), first.names("a"), first.trail_now()), (["a"], [("x", 1)], []))
        again = first.copied()
        self.assertEqual(fault_of(lambda: again.draw_step("b")), ("missing", [("b", 0), ("c", 2)], "c", "z"))
        self.assertEqual(again.log()[:1], [("begin", "b")])

    def test_a_draw_refused_alone_may_go_well_behind_another_one(self):
        texts = ["part p\ndraw q as q\nlet x be 1", "part q\ndraw p as p\nneed p.x"]
        self.assert_fault(texts, "unfilled", [("p", 0), ("q", 1)], "p", "x")
        filling = self.drawn(*texts, first="q").copied()
        filling.draw_step("p")
        self.assert_log(filling.log(), ("there", "p"))

    def test_more_late_is_not_always_better(self):
        first = "part p\nlet a be 1\ndraw q as q\ndraw s as s\nneed q.b"
        others = ["part q\ndraw p as p\nneed p.a\ndraw s as s\nneed s.c\nlet b be 1", "part s\ndraw q as q\nlet c be 1"]
        self.assertEqual(self.drawn(first, *others).filled(), ["s", "q", "p"])
        late = house_of(first.replace("draw q", "late q"), *others)
        for address in "pqs":
            self.assertIsNotNone(fault_of(lambda: Filling(late).draw_step(address)))


class Touched(Fillings):
    def test_what_rows_draw_with_each_prefix(self):
        others = ["part a", "part a.b", "part c", "part c.d", "part c.e"]
        filling = self.drawn("part p\ndraw a.b as x\ntake d from c as y", *others)
        self.assertEqual(filling.touched("p"), ["a", "a.b", "c", "c.d"])

    def test_what_stood_there_too(self):
        filling = self.drawn("part a", "part p\ndraw a as x", first="a").copied()
        filling.draw_step("p")
        self.assertEqual(filling.touched("p"), ["a"])

    def test_what_rows_read(self):
        texts = [
            "part p\ndraw q as q\nneed q.r.s.x", "part q\ndraw r as r", "part r\nlate s as s", "part s\nlet x be 1",
        ]
        filling = self.drawn(*texts)
        self.assertEqual([filling.touched(address) for address in "pqrs"], [["q", "r", "s"], ["r"], [], []])

    def test_the_parent_whether_or_not_a_step_went_there(self):
        filling = self.drawn("part a", "part a.b", "part a.b.c", first="a.b.c")
        self.assertEqual([filling.touched(address) for address in ("a", "a.b", "a.b.c")], [[], ["a"], ["a.b"]])

    def test_itself_never(self):
        filling = self.drawn("part p\ndraw p as p\nlet x be 1\nneed p.p.x\nlate p as l\nneed l.x\ntake x from p as y")
        self.assertEqual(filling.touched("p"), [])

    def test_what_a_nested_part_did_is_not_ones_own(self):
        filling = self.drawn("part p\ndraw q as q\nneed 1", "part q\ndraw r as r\nneed r.x", "part r\nlet x be 1")
        self.assertEqual([filling.touched(address) for address in "pqr"], [["q"], ["r"], []])

    def test_behind_the_nested_one_it_is_ones_own_again(self):
        filling = self.drawn("part p\ndraw q as q\ndraw r as r", "part q", "part r")
        self.assertEqual(filling.touched("p"), ["q", "r"])

    def test_by_deeds_it_is_whoever_calls(self):
        texts = [
            "part p\ndraw q as q\nneed q.f()", "part q\nlate r as r\ndeed f be r.s.x", "part r\ndraw s as s",
            "part s\nlet x be 1",
        ]
        filling = self.drawn(*texts)
        self.assertEqual([filling.touched(address) for address in "pqrs"], [["q", "r", "s"], [], ["s"], []])

    def test_a_deed_of_ones_own_called_by_another_one(self):
        texts = ["part p\nlet x be 1\ndeed f be x\ndraw q as q", "part q\ndraw p as p\nneed p.f()"]
        filling = self.drawn(*texts)
        self.assertEqual([filling.touched(address) for address in "pq"], [["q"], ["p"]])

    def test_a_called_deed_that_reads_nothing(self):
        texts = ["part p\ntake g from q as h\nneed h()", "part q\ntake f from r as g", "part r\ndeed f be 1"]
        self.assertEqual(self.drawn(*texts).touched("p"), ["q"])

    def test_late_holds_that_were_read(self):
        filling = self.drawn("part p\nlate a.b as x\nlate c as y\nneed x", "part a", "part a.b", "part c")
        self.assertEqual(filling.touched("p"), ["a", "a.b"])

    def test_they_are_parts_to_which_it_leads(self):
        for seed in range(400):
            house = house_of(*Chance(seed).texts())
            for address in house.addresses():
                filling = Filling(house)
                if fault_of(lambda: filling.draw_step(address)) is None:
                    for one in filling.filled():
                        self.assertLessEqual(set(filling.touched(one)), set(leads(house, one)) - {one})


class Copies(Fillings):
    TEXTS = ["part a\nlet x be 1", "part b\ndraw a as a", "part c\ndraw b as b"]

    def test_a_copy_stands_as_the_other_one_without_events(self):
        filling = self.drawn(*self.TEXTS, first="b")
        other = filling.copied()
        self.assertEqual((other.filled(), other.touched("b")), (["a", "b"], ["a"]))
        self.assert_names(other, "a", x=1)
        self.assert_names(other, "b", a=("part", "a"))
        self.assertEqual(other.log(), [])
        self.assertIs(other.house, filling.house)

    def test_they_know_nothing_of_one_another(self):
        filling = self.drawn(*self.TEXTS, first="b")
        kept = filling.log()
        other = filling.copied()
        other.draw_step("c")
        self.assertEqual((filling.filled(), filling.log()), (["a", "b"], kept))
        self.assertEqual(other.filled(), ["a", "b", "c"])

    def test_two_of_one_house(self):
        house = house_of(*self.TEXTS)
        one, other = Filling(house), Filling(house)
        one.draw_step("c")
        self.assertEqual((other.filled(), other.log()), ([], []))

    def test_what_is_told_may_be_changed(self):
        filling = self.drawn(*self.TEXTS, first="b")
        for ask in (
            filling.filled, filling.log, filling.trail_now, lambda: filling.names("b"), lambda: filling.touched("b"),
        ):
            first = ask()
            kept = list(first)
            first.append("z")
            self.assertEqual(ask(), kept)

    def test_the_house_is_not_changed(self):
        house = house_of(*self.TEXTS)
        told = [(part, part.text()) for part in house.told]
        Filling(house).draw_step("c")
        self.assertEqual([(part, part.text()) for part in house.told], told)


class TwelveDeep(Fillings):
    LETTERS = "abcdefghijkl"

    def test_a_line_of_twelve_by_deeds_that_read_late_holds(self):
        texts = [
            f"part {one}\nlate {other} as l\ndeed f be 1 + l.x\nlet x be 1 + f()"
            for one, other in zip(self.LETTERS, self.LETTERS[1:])
        ]
        filling = self.drawn(*texts, "part l\nlet x be 1", first="a")
        self.assertEqual(filling.filled(), list(reversed(self.LETTERS)))
        self.assertEqual(filling.names("a")[-1], ("x", 23))

    def test_a_ring_of_twelve(self):
        texts = [
            f"part {one}\ndraw {other} as o\nlet x be o.x" for one, other in zip(self.LETTERS, self.LETTERS[1:] + "a")
        ]
        trail = [(one, 1 if one == "l" else 0) for one in self.LETTERS]
        self.assert_fault(texts, "unfilled", trail, "a", "x", first="a")


class AgainstASecondTelling(Fillings):
    def check_draw(self, filling, telling, address):
        """The filling that stands behind the draw, and the word of the fault or None."""
        log, fault = telling.draw(address)
        trial = filling.copied()
        self.assertEqual(fault_of(lambda: trial.draw_step(address)), fault)
        self.assertEqual(trial.log(), log)
        return (trial, None) if fault is None else (filling, fault[0])

    def check_stand(self, filling, telling):
        self.assertEqual(filling.filled(), telling.filled())
        for address in telling.filled():
            self.assertEqual(filling.names(address), telling.names(address))
            self.assertEqual(filling.touched(address), telling.touched(address))

    def test_houses_by_chance(self):
        met = {}
        for seed in range(2500):
            chance = Chance(seed)
            texts = chance.texts()
            filling, telling = Filling(house_of(*texts)), Telling(texts)
            with self.subTest(texts=texts):
                for address in chance.draws(texts, 6):
                    filling, word = self.check_draw(filling, telling, address)
                    met[word] = met.get(word, 0) + 1
                self.check_stand(filling, telling)
        words = [None, "unknown", "unfilled", "missing", "nopart", "nodeed", "nonumber"]
        self.assertTrue(all(met.get(word, 0) > 100 for word in words), met)

    def test_great_houses_by_chance(self):
        for seed in range(300):
            chance = Chance(seed, 12, 10)
            texts = chance.texts()
            filling, telling = Filling(house_of(*texts)), Telling(texts)
            with self.subTest(texts=texts):
                for address in chance.draws(texts, 12):
                    filling, _ = self.check_draw(filling, telling, address)
                self.check_stand(filling, telling)

    def test_each_name_is_what_its_row_says_of_the_names_told(self):
        """Point 33: gone through once more by the telling, behind all events, each row comes to what is bound."""
        for seed in range(600):
            chance = Chance(seed)
            texts = chance.texts()
            filling, telling = Filling(house_of(*texts)), Telling(texts)
            for address in chance.draws(texts, 6):
                trial = filling.copied()
                if fault_of(lambda: trial.draw_step(address)) is None:
                    filling = trial
                    telling.events = telling.events + trial.log()
            for address in filling.filled():
                self.check_rows(filling, telling, address)

    def check_rows(self, filling, telling, address):
        names = filling.names(address)
        events = list(telling.events)
        for row in telling.rows[address]:
            telling.obey(address, row)
            more = telling.events[len(events):]
            self.assertNotIn("begin", [event[0] for event in more])
            if not row.startswith("need "):
                self.assertEqual(more[-1][2:], names.pop(0))
            telling.events = list(events)
        self.assertEqual(names, [])


if __name__ == "__main__":
    unittest.main()
