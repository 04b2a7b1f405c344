"""Points 2 and 12: whole numbers, names, addresses and what is told of them."""

import itertools
import re
import string
import unittest

from drawhouse.words import is_address, is_name, is_whole, last_of, parent_of, prefixes

SIGNS = [chr(code) for code in range(ord(" "), ord("~") + 1)] + ["\t", "\n"]
NO_LETTERS = [sign for sign in SIGNS if sign not in string.ascii_lowercase]
NO_TEXTS = [
    None, True, False, 0, 1, -1, 10 ** 30, 1.5, b"a", b"", [], ["a"], ["a", "b"], (), ("a",),
    {}, {"a": 1}, {"a"}, frozenset(), object(), str, len, ValueError("a"), range(3), lambda: "a",
]
NAME = "[a-z]{1,8}"
ADDRESS = rf"{NAME}(\.{NAME}){{0,2}}"


class Wholes(unittest.TestCase):
    def test_whole_numbers_of_both_signs(self):
        for number in (0, 1, -1, 7, -7, 10 ** 20 - 1, 10 ** 20, -(10 ** 40)):
            self.assertIs(is_whole(number), True)

    def test_truths_are_none(self):
        self.assertIs(is_whole(True), False)
        self.assertIs(is_whole(False), False)

    def test_other_things_are_none(self):
        for thing in NO_TEXTS + ["", "0", "1", "-1", "a", 0.0, 1.0, 1j]:
            if type(thing) is not int:
                self.assertIs(is_whole(thing), False, repr(thing))


class Names(unittest.TestCase):
    def test_one_and_eight_letters(self):
        for letter in string.ascii_lowercase:
            self.assertIs(is_name(letter), True)
            self.assertIs(is_name(letter * 8), True)

    def test_each_length(self):
        for many in range(20):
            self.assertIs(is_name("abcdefghijklmnopqrst"[:many]), 1 <= many <= 8)
        self.assertIs(is_name("a" * 10000), False)

    def test_words_of_rows_are_names(self):
        for word in ("let", "deed", "be", "draw", "late", "as", "take", "from", "need", "part", "none"):
            self.assertIs(is_name(word), True)

    def test_other_signs_at_every_place(self):
        for whole in ("b", "bc", "bcd", "bcdefgh"):
            for sign in NO_LETTERS:
                for at in range(len(whole) + 1):
                    self.assertIs(is_name(whole[:at] + sign + whole[at:]), False)

    def test_other_signs_in_the_place_of_a_letter(self):
        for whole in ("b", "bcd", "bcdefghi"):
            for sign in NO_LETTERS:
                for at in range(len(whole)):
                    self.assertIs(is_name(whole[:at] + sign + whole[at + 1:]), False)

    def test_addresses_of_two_names_are_none(self):
        self.assertIs(is_name("a.b"), False)
        self.assertIs(is_name("."), False)

    def test_no_texts_are_none(self):
        for thing in NO_TEXTS:
            self.assertIs(is_name(thing), False, repr(thing))


class Addresses(unittest.TestCase):
    def test_one_to_three_names(self):
        for address in ("a", "a.b", "a.b.c", "a.a.a", "abcdefgh", "abcdefgh.abcdefgh.abcdefgh", "let.be.as"):
            self.assertIs(is_address(address), True, address)

    def test_no_name_and_four_names(self):
        for text in ("", "a.b.c.d", "a.a.a.a", "a.b.c.d.e", ".".join(["a"] * 1000)):
            self.assertIs(is_address(text), False, text)

    def test_points_ahead_behind_and_two_on_end(self):
        for text in (".", "..", "...", ".a", "a.", ".a.b", "a.b.", "a..b", ".a.b.c", "a.b.c.", "a..b.c", "a.b..c"):
            self.assertIs(is_address(text), False, text)

    def test_a_name_of_nine_letters_at_each_place(self):
        for text in ("abcdefghi", "abcdefghi.b", "a.abcdefghi", "abcdefghi.b.c", "a.abcdefghi.c", "a.b.abcdefghi"):
            self.assertIs(is_address(text), False, text)

    def test_other_signs_at_every_place(self):
        for whole in ("b", "bc.d", "b.cd.e"):
            for sign in NO_LETTERS:
                for at in range(len(whole) + 1):
                    text = whole[:at] + sign + whole[at:]
                    self.assertIs(is_address(text), re.fullmatch(ADDRESS, text) is not None, repr(text))

    def test_no_texts_are_none(self):
        for thing in NO_TEXTS:
            self.assertIs(is_address(thing), False, repr(thing))


class AllSmallTexts(unittest.TestCase):
    def test_names_and_addresses(self):
        for many in range(7):
            for signs in itertools.product("ab.A1 \n"[: 7 if many < 6 else 3], repeat=many):
                text = "".join(signs)
                self.assertIs(is_name(text), re.fullmatch(NAME, text) is not None, repr(text))
                self.assertIs(is_address(text), re.fullmatch(ADDRESS, text) is not None, repr(text))


class AroundAnAddress(unittest.TestCase):
    TOLD = [
        ("a", ["a"], "", "a"),
        ("abcdefgh", ["abcdefgh"], "", "abcdefgh"),
        ("a.b", ["a", "a.b"], "a", "b"),
        ("a.a", ["a", "a.a"], "a", "a"),
        ("ab.a", ["ab", "ab.a"], "ab", "a"),
        ("a.b.c", ["a", "a.b", "a.b.c"], "a.b", "c"),
        ("a.a.a", ["a", "a.a", "a.a.a"], "a.a", "a"),
        ("a.b.a", ["a", "a.b", "a.b.a"], "a.b", "a"),
        ("a.a.b", ["a", "a.a", "a.a.b"], "a.a", "b"),
        ("b.a.a", ["b", "b.a", "b.a.a"], "b.a", "a"),
        ("part.of.it", ["part", "part.of", "part.of.it"], "part.of", "it"),
    ]

    def test_prefixes(self):
        for address, told, *_ in self.TOLD:
            self.assertEqual(prefixes(address), told)
            self.assertIs(type(prefixes(address)), list)

    def test_parent(self):
        for address, _, parent, _ in self.TOLD:
            self.assertEqual(parent_of(address), parent)

    def test_last(self):
        for address, _, _, last in self.TOLD:
            self.assertEqual(last_of(address), last)

    def test_a_told_list_may_be_changed(self):
        for address, told, parent, last in self.TOLD:
            first = prefixes(address)
            second = prefixes(address)
            first.append("z")
            first[0] = "y"
            self.assertEqual(second, told)
            self.assertEqual(prefixes(address), told)
            first.clear()
            self.assertEqual(prefixes(address), told)
            self.assertEqual((parent_of(address), last_of(address)), (parent, last))

    def test_nothing_asked_later_changes_a_told_list(self):
        told = [prefixes(address) for address, *_ in self.TOLD]
        self.assertEqual(told, [row[1] for row in self.TOLD])


if __name__ == "__main__":
    unittest.main()
