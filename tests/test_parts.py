"""Point 16: parts, the names that they bind and their texts; point 3 of them."""

import unittest

from drawhouse.parts import Part
from drawhouse.rows import Deed, Draw, Late, Let, Need, Take

ONE = [(1, "number", 1)]
A = [(1, "path", ("a",))]


def of_all_six():
    return [
        Need(A), Take("w", "a.b", "z"), Let("y", ONE), Need(ONE), Deed("x", A),
        Draw("a", "b"), Late("b.c", "a"), Need(A),
    ]


def lets(many):
    return [Let("abcdefghijklmnopqrst"[at], [(1, "number", at)]) for at in range(many)]


class Fields(unittest.TestCase):
    def test_address_and_rows(self):
        rows = of_all_six()
        part = Part("a.b.c", rows)
        self.assertEqual((part.address, part.rows), ("a.b.c", rows))
        self.assertIs(type(part.rows), list)

    def test_the_rows_are_those_handed_in(self):
        rows = of_all_six()
        for handed, kept in zip(rows, Part("a", rows).rows, strict=True):
            self.assertIs(handed, kept)

    def test_the_names_of_the_arguments(self):
        self.assertEqual(Part(address="a", rows=[]).text(), "part a")


class Bound(unittest.TestCase):
    def test_in_the_order_of_the_rows_without_the_needs(self):
        self.assertEqual(Part("a", of_all_six()).bound(), ["z", "y", "x", "b", "a"])

    def test_without_rows(self):
        self.assertEqual(Part("a", []).bound(), [])

    def test_of_needs_alone(self):
        self.assertEqual(Part("a", [Need(A), Need(A)]).bound(), [])

    def test_of_twelve_rows(self):
        self.assertEqual(Part("a", lets(12)).bound(), list("abcdefghijkl"))

    def test_of_more_rows_than_twelve_nothing_is_refused(self):
        part = Part("a", lets(13))
        self.assertEqual((part.bound(), part.place_of("m")), (list("abcdefghijklm"), 12))


class PlaceOf(unittest.TestCase):
    def test_of_each_name(self):
        part = Part("a", of_all_six())
        self.assertEqual([part.place_of(name) for name in ("z", "y", "x", "b", "a")], [1, 2, 4, 5, 6])

    def test_of_names_that_no_row_binds(self):
        part = Part("p", of_all_six())
        for name in ("w", "c", "p", "let", "need", "zz", "abcdefgh"):
            self.assertIsNone(part.place_of(name), name)

    def test_a_need_binds_none(self):
        self.assertIsNone(Part("a", of_all_six()).place_of(""))
        self.assertIsNone(Part("a", []).place_of(""))

    def test_without_rows(self):
        self.assertIsNone(Part("a", []).place_of("a"))

    def test_the_first_and_the_twelfth_row(self):
        part = Part("a", lets(12))
        self.assertEqual((part.place_of("a"), part.place_of("l"), part.place_of("m")), (0, 11, None))
        self.assertIs(type(part.place_of("a")), int)

    def test_names_that_are_the_rows_own_words(self):
        rows = [Let("be", A), Draw("as", "as"), Take("from", "from", "from"), Need([(1, "path", ("need",))])]
        part = Part("part", rows)
        self.assertEqual([part.place_of(name) for name in ("be", "as", "from", "need")], [0, 1, 2, None])


class Text(unittest.TestCase):
    def test_of_all_six(self):
        self.assertEqual(
            Part("a.b", of_all_six()).text(),
            "part a.b\nneed a\ntake w from a.b as z\nlet y be 1\nneed 1\ndeed x be a\ndraw a as b\n"
            "late b.c as a\nneed a",
        )

    def test_without_rows_there_is_no_line_feed(self):
        for address in ("a", "part", "a.b.c"):
            self.assertEqual(Part(address, []).text(), "part " + address)

    def test_of_twelve_rows(self):
        text = Part("a", lets(12)).text()
        self.assertEqual(text.count("\n"), 12)
        self.assertTrue(text.endswith("\nlet l be 11"))


class ListsOfTheirOwn(unittest.TestCase):
    def tells(self, part):
        return (part.bound(), part.place_of("z"), part.text(), len(part.rows))

    def test_the_rows_handed_in_may_be_changed_behind(self):
        rows = of_all_six()
        part = Part("a", rows)
        told = self.tells(part)
        rows.append(Let("new", ONE))
        rows[1] = Let("other", ONE)
        self.assertEqual(self.tells(part), told)
        rows.clear()
        self.assertEqual(self.tells(part), told)

    def test_the_rows_handed_in_are_not_changed(self):
        rows = of_all_six()
        handed = list(rows)
        self.tells(Part("a", rows))
        self.assertEqual(rows, handed)

    def test_two_parts_of_one_list(self):
        rows = of_all_six()
        self.assertIsNot(Part("a", rows).rows, Part("b", rows).rows)

    def test_a_told_list_may_be_changed(self):
        part = Part("a", of_all_six())
        told = self.tells(part)
        first = part.bound()
        second = part.bound()
        first.append("new")
        first[0] = "other"
        self.assertEqual(second, ["z", "y", "x", "b", "a"])
        first.clear()
        self.assertEqual(self.tells(part), told)


if __name__ == "__main__":
    unittest.main()
