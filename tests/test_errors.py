"""Point 4: the refusals, their kinds and their fields."""

import unittest

from drawhouse import errors
from drawhouse.errors import (
    Clash,
    Double,
    Fault,
    HouseError,
    NoDrop,
    NoExpr,
    NoName,
    NoPart,
    NoRow,
    NoText,
    Orphan,
    TooMany,
    TooWide,
    Twice,
)

MADE_WITH_TEXT = [NoExpr, TooWide]
MADE_WITH_AT = [NoText, TooMany, Twice, Double, Orphan, Clash, NoRow]
MADE_WITH_ADDRESS = [NoPart, NoDrop]
THIRTEEN = MADE_WITH_TEXT + MADE_WITH_AT + MADE_WITH_ADDRESS + [NoName, Fault]


def one_of_each():
    made = [kind("words") for kind in MADE_WITH_TEXT]
    made += [kind(3) for kind in MADE_WITH_AT]
    made += [kind("a.b") for kind in MADE_WITH_ADDRESS]
    made += [NoName("x"), Fault("missing", [("a", 0)], "b", "x")]
    return made


class Kinds(unittest.TestCase):
    def test_there_are_thirteen(self):
        self.assertEqual(len(set(THIRTEEN)), 13)

    def test_house_error_stands_under_value_error(self):
        self.assertTrue(issubclass(HouseError, ValueError))
        self.assertIsInstance(HouseError("words"), ValueError)

    def test_house_error_is_none_of_the_thirteen(self):
        for kind in THIRTEEN:
            self.assertNotIsInstance(HouseError("words"), kind)

    def test_each_is_a_house_error_and_of_its_own_class_alone(self):
        for own, made in zip(THIRTEEN, one_of_each()):
            with self.subTest(own.__name__):
                self.assertIsInstance(made, HouseError)
                self.assertIsInstance(made, ValueError)
                self.assertEqual([kind for kind in THIRTEEN if isinstance(made, kind)], [own])

    def test_none_stands_under_another_one(self):
        for one in THIRTEEN:
            for other in THIRTEEN:
                self.assertEqual(issubclass(one, other), one is other)

    def test_each_is_called_by_its_name(self):
        for kind in THIRTEEN + [HouseError]:
            self.assertIs(getattr(errors, kind.__name__), kind)

    def test_each_can_be_raised_and_taken_as_each_of_its_kinds(self):
        for own, made in zip(THIRTEEN, one_of_each()):
            for kind in (own, HouseError, ValueError):
                with self.assertRaises(kind) as taken:
                    raise made
                self.assertIs(taken.exception, made)

    def test_each_has_words(self):
        for made in one_of_each() + [HouseError("words")]:
            self.assertIsInstance(str(made), str)


class Fields(unittest.TestCase):
    def test_at(self):
        for kind in MADE_WITH_AT:
            with self.subTest(kind.__name__):
                first = kind(0)
                second = kind(12)
                self.assertEqual((first.at, second.at), (0, 12))
                self.assertIs(type(first.at), int)

    def test_address(self):
        for kind in MADE_WITH_ADDRESS:
            with self.subTest(kind.__name__):
                first = kind("a.b.c")
                second = kind("d")
                self.assertEqual((first.address, second.address), ("a.b.c", "d"))

    def test_name(self):
        first = NoName("x")
        second = NoName("longname")
        self.assertEqual((first.name, second.name), ("x", "longname"))

    def test_fields_of_a_fault(self):
        first = Fault("unfilled", [("a", 0), ("b.c", 2)], "a", "x")
        second = Fault("unknown", [], "z", "")
        self.assertEqual(
            (first.word, first.trail, first.whose, first.name),
            ("unfilled", [("a", 0), ("b.c", 2)], "a", "x"),
        )
        self.assertEqual((second.word, second.trail, second.whose, second.name), ("unknown", [], "z", ""))

    def test_one_class_leaves_the_fields_of_another_alone(self):
        made = [kind(at) for at, kind in enumerate(MADE_WITH_AT)]
        self.assertEqual([one.at for one in made], list(range(len(MADE_WITH_AT))))
        part, drop = NoPart("a"), NoDrop("b")
        self.assertEqual((part.address, drop.address), ("a", "b"))


class Trails(unittest.TestCase):
    def test_a_trail_is_a_list_of_tuples(self):
        fault = Fault("nopart", [("a", 1)], "a", "x")
        self.assertIs(type(fault.trail), list)
        self.assertIs(type(fault.trail[0]), tuple)

    def test_the_trail_handed_in_may_be_changed_behind(self):
        trail = [("a", 1), ("b", 0)]
        fault = Fault("nodeed", trail, "b", "x")
        words = str(fault)
        trail.append(("c", 2))
        trail[0] = ("z", 9)
        self.assertEqual(fault.trail, [("a", 1), ("b", 0)])
        self.assertEqual(str(fault), words)
        trail.clear()
        self.assertEqual(fault.trail, [("a", 1), ("b", 0)])

    def test_the_trail_handed_in_is_not_changed(self):
        trail = [("a", 1), ("b", 0)]
        fault = Fault("nonumber", trail, "b", "x")
        self.assertEqual(trail, [("a", 1), ("b", 0)])
        fault.trail.clear()
        self.assertEqual(trail, [("a", 1), ("b", 0)])

    def test_an_empty_trail_is_a_list_of_its_own_too(self):
        trail = []
        first = Fault("unknown", trail, "z", "")
        second = Fault("unknown", trail, "z", "")
        trail.append(("a", 0))
        first.trail.append(("b", 1))
        self.assertEqual((first.trail, second.trail), ([("b", 1)], []))


if __name__ == "__main__":
    unittest.main()
