"""Points 14 and 15: what a row binds, names and says; points 3 and 4 of them."""

import unittest

from drawhouse import rows
from drawhouse.rows import Deed, Draw, Late, Let, Need, Row, Take

SIX = [Let, Deed, Draw, Late, Take, Need]
A = [(1, "path", ("a",))]
LONG = [
    (1, "call", ("abcdefgh", "b", "c", "d")), (-1, "number", 10 ** 20 - 1), (-1, "path", ("a",)),
    (1, "number", 0), (1, "call", ("f",)), (-1, "path", ("b", "c")),
]
LONG_TEXT = "abcdefgh.b.c.d() - 99999999999999999999 - a + 0 + f() - b.c"
NO_CALLS = [(1, "number", 0), (-1, "path", ("a", "b")), (1, "number", 12)]

# The row, what it binds, what it names, what it says.
TOLD = [
    (Let("x", A), "x", [], "let x be a"),
    (Let("let", [(1, "path", ("be",))]), "let", [], "let let be be"),
    (Let("be", [(1, "path", ("be", "be"))]), "be", [], "let be be be.be"),
    (Let("abcdefgh", LONG), "abcdefgh", [], "let abcdefgh be " + LONG_TEXT),
    (Let("x", [(1, "call", ("f",))]), "x", [], "let x be f()"),
    (Deed("x", A), "x", [], "deed x be a"),
    (Deed("deed", [(1, "path", ("deed",))]), "deed", [], "deed deed be deed"),
    (Deed("let", NO_CALLS), "let", [], "deed let be 0 - a.b + 12"),
    (Draw("a", "x"), "x", ["a"], "draw a as x"),
    (Draw("a.b.c", "a"), "a", ["a.b.c"], "draw a.b.c as a"),
    (Draw("as", "as"), "as", ["as"], "draw as as as"),
    (Draw("draw.as", "draw"), "draw", ["draw.as"], "draw draw.as as draw"),
    (Late("a", "x"), "x", ["a"], "late a as x"),
    (Late("a.b", "late"), "late", ["a.b"], "late a.b as late"),
    (Late("late.as.as", "as"), "as", ["late.as.as"], "late late.as.as as as"),
    (Take("w", "a", "x"), "x", ["a"], "take w from a as x"),
    (Take("w", "a.b.c", "w"), "w", ["a.b.c"], "take w from a.b.c as w"),
    (Take("from", "from", "as"), "as", ["from"], "take from from from as as"),
    (Take("from", "as", "as"), "as", ["as"], "take from from as as as"),
    (Take("take", "take.from", "from"), "from", ["take.from"], "take take from take.from as from"),
    (Need(A), "", [], "need a"),
    (Need([(1, "path", ("need",))]), "", [], "need need"),
    (Need(LONG), "", [], "need " + LONG_TEXT),
]


class Kinds(unittest.TestCase):
    def test_each_is_a_row(self):
        for kind in SIX:
            self.assertTrue(issubclass(kind, Row), kind.__name__)

    def test_none_stands_under_another_one(self):
        self.assertEqual(len(set(SIX)), 6)
        for one in SIX:
            for other in SIX:
                self.assertEqual(issubclass(one, other), one is other)

    def test_a_bare_row_is_none_of_the_six(self):
        for kind in SIX:
            self.assertNotIsInstance(Row(), kind)

    def test_each_is_called_by_its_name(self):
        for kind in SIX + [Row]:
            self.assertIs(getattr(rows, kind.__name__), kind)


class WhatARowTells(unittest.TestCase):
    def test_what_it_binds(self):
        for row, binds, _, said in TOLD:
            self.assertEqual(row.binds(), binds, said)
            self.assertIs(type(row.binds()), str)

    def test_what_it_names(self):
        for row, _, asked, said in TOLD:
            self.assertEqual(row.asked(), asked, said)
            self.assertIs(type(row.asked()), list)

    def test_what_it_says(self):
        for row, _, _, said in TOLD:
            self.assertEqual(row.said(), said)

    def test_a_bare_row(self):
        row = Row()
        self.assertEqual((row.binds(), row.asked(), row.said()), ("", [], ""))

    def test_asked_once_more_it_tells_the_same(self):
        for row, binds, asked, said in TOLD:
            for _ in range(3):
                self.assertEqual((row.said(), row.asked(), row.binds()), (said, asked, binds))


class Fields(unittest.TestCase):
    def test_of_let_and_deed(self):
        for kind in (Let, Deed):
            row = kind("x", NO_CALLS)
            self.assertEqual((row.name, row.terms), ("x", NO_CALLS))

    def test_of_draw_and_late(self):
        for kind in (Draw, Late):
            row = kind("a.b", "x")
            self.assertEqual((row.address, row.name), ("a.b", "x"))

    def test_of_take(self):
        row = Take("w", "a.b", "x")
        self.assertEqual((row.word, row.address, row.name), ("w", "a.b", "x"))

    def test_of_need(self):
        self.assertEqual(Need(LONG).terms, LONG)

    def test_the_names_of_the_arguments(self):
        self.assertEqual(Let(name="x", terms=A).said(), "let x be a")
        self.assertEqual(Deed(name="x", terms=A).said(), "deed x be a")
        self.assertEqual(Draw(address="a", name="x").said(), "draw a as x")
        self.assertEqual(Late(address="a", name="x").said(), "late a as x")
        self.assertEqual(Take(word="w", address="a", name="x").said(), "take w from a as x")
        self.assertEqual(Need(terms=A).said(), "need a")

    def test_terms_are_a_list(self):
        for row in (Let("x", A), Deed("x", A), Need(A)):
            self.assertIs(type(row.terms), list)

    def test_one_row_leaves_another_alone(self):
        made = [Let("x", A), Let("y", LONG), Deed("z", A), Need(A)]
        self.assertEqual(
            [row.said() for row in made],
            ["let x be a", "let y be " + LONG_TEXT, "deed z be a", "need a"],
        )


class ListsOfTheirOwn(unittest.TestCase):
    MAKERS = [
        (lambda terms: Let("x", terms), "let x be 0 - a.b + 12"),
        (lambda terms: Deed("x", terms), "deed x be 0 - a.b + 12"),
        (lambda terms: Need(terms), "need 0 - a.b + 12"),
    ]

    def test_the_terms_handed_in_may_be_changed_behind(self):
        for make, said in self.MAKERS:
            terms = list(NO_CALLS)
            row = make(terms)
            terms.append((1, "number", 5))
            terms[0] = (1, "number", 9)
            self.assertEqual((row.said(), row.terms), (said, NO_CALLS))
            terms.clear()
            self.assertEqual((row.said(), row.terms), (said, NO_CALLS))

    def test_the_terms_handed_in_are_not_changed(self):
        for make, _ in self.MAKERS:
            terms = list(NO_CALLS)
            row = make(terms)
            row.said()
            row.asked()
            self.assertEqual(terms, NO_CALLS)
            self.assertIsNot(row.terms, terms)

    def test_two_rows_of_one_list(self):
        terms = list(NO_CALLS)
        made = [make(terms) for make, _ in self.MAKERS]
        self.assertEqual(len({id(row.terms) for row in made}), 3)

    def test_a_told_list_may_be_changed(self):
        for row, _, asked, said in TOLD + [(Row(), "", [], "")]:
            first = row.asked()
            second = row.asked()
            first.append("z")
            first[0] = "y"
            self.assertEqual((second, row.asked(), row.said()), (asked, asked, said))
            second.clear()
            self.assertEqual((row.asked(), row.said()), (asked, said))


if __name__ == "__main__":
    unittest.main()
