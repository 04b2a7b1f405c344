"""Point 25: values, as they are written; point 3 of them."""

import unittest

from drawhouse.values import value_text


class ValueText(unittest.TestCase):
    def test_whole_numbers(self):
        for number, text in (
            (0, "0"), (7, "7"), (-7, "-7"), (10 ** 20 - 1, "9" * 20), (10 ** 20, "1" + "0" * 20),
            (-(10 ** 150), "-1" + "0" * 150),
        ):
            self.assertEqual(value_text(number), text)

    def test_parts(self):
        for address in ("a", "a.b", "a.b.c", "abcdefgh.part.deed"):
            self.assertEqual(value_text(("part", address)), "part " + address)

    def test_late_holds(self):
        for address in ("a", "a.b", "a.b.c", "late"):
            self.assertEqual(value_text(("late", address)), "late " + address)

    def test_deeds_without_their_expression(self):
        self.assertEqual(value_text(("deed", "a", "f", "1")), "deed a.f")
        self.assertEqual(value_text(("deed", "a.b", "f", "g + 2 - a.b.c")), "deed a.b.f")
        self.assertEqual(value_text(("deed", "a.b.c", "deed", "deed")), "deed a.b.c.deed")

    def test_the_name_of_the_argument(self):
        self.assertEqual(value_text(value=("part", "a")), "part a")

    def test_it_is_a_text(self):
        for value in (1, ("part", "a"), ("late", "a"), ("deed", "a", "f", "1")):
            self.assertIs(type(value_text(value)), str)


if __name__ == "__main__":
    unittest.main()
