"""Points 14, 17 and 18: rows and parts, read from their texts; points 3 to 5 of them."""

import itertools
import re
import unittest

from drawhouse.errors import HouseError, NoText, TooMany, Twice
from drawhouse.parts import Part
from drawhouse.reader import read_part, read_row
from drawhouse.rows import Deed, Draw, Late, Let, Need, Row, Take

SIGNS = [chr(code) for code in range(ord(" "), ord("~") + 1)] + ["\t", "\n"]
OWN_WORDS = ["let", "deed", "draw", "late", "take", "need", "be", "as", "from", "part"]
NAME = "[a-z]{1,8}"
ADDRESS = rf"{NAME}(?:\.{NAME}){{0,2}}"
PATH = rf"{NAME}(?:\.{NAME}){{0,3}}"
NUMBER = "(?:0|[1-9][0-9]{0,19})"


def expr_of(term):
    return rf"{term}(?: [+-] {term}){{0,5}}"


EXPR = expr_of(rf"(?:{NUMBER}|{PATH}(?:\(\))?)")
NO_CALLS = expr_of(rf"(?:{NUMBER}|{PATH})")
# The six ways of point 14, each with what a row of it binds.
WAYS = [
    (Let, re.compile(rf"let ({NAME}) be {EXPR}")),
    (Deed, re.compile(rf"deed ({NAME}) be {NO_CALLS}")),
    (Draw, re.compile(rf"draw {ADDRESS} as ({NAME})")),
    (Late, re.compile(rf"late {ADDRESS} as ({NAME})")),
    (Take, re.compile(rf"take {NAME} from {ADDRESS} as ({NAME})")),
    (Need, re.compile(rf"need {EXPR}()")),
]
HEAD = re.compile(rf"part {ADDRESS}")

BE = [(1, "path", ("be",))]
SIX_TERMS = "a - b.c + 1 - 0 + d.e.f.g - 99999999999999999999"
READ_SIX_TERMS = [
    (1, "path", ("a",)), (-1, "path", ("b", "c")), (1, "number", 1), (-1, "number", 0),
    (1, "path", ("d", "e", "f", "g")), (-1, "number", 10 ** 20 - 1),
]
CALLS = "f() - a.b.c.d() + 3"
READ_CALLS = [(1, "call", ("f",)), (-1, "call", ("a", "b", "c", "d")), (1, "number", 3)]

# The text, the class of the row, its fields.
TOLD = [
    ("let x be 1", Let, {"name": "x", "terms": [(1, "number", 1)]}),
    ("let let be be", Let, {"name": "let", "terms": BE}),
    ("let be be be", Let, {"name": "be", "terms": BE}),
    ("let abcdefgh be " + SIX_TERMS, Let, {"name": "abcdefgh", "terms": READ_SIX_TERMS}),
    ("let x be " + CALLS, Let, {"name": "x", "terms": READ_CALLS}),
    ("let x be be - be", Let, {"name": "x", "terms": BE + [(-1, "path", ("be",))]}),
    ("deed x be 0", Deed, {"name": "x", "terms": [(1, "number", 0)]}),
    ("deed deed be be", Deed, {"name": "deed", "terms": BE}),
    ("deed be be be", Deed, {"name": "be", "terms": BE}),
    ("deed x be " + SIX_TERMS, Deed, {"name": "x", "terms": READ_SIX_TERMS}),
    ("draw a as x", Draw, {"address": "a", "name": "x"}),
    ("draw a.b as a", Draw, {"address": "a.b", "name": "a"}),
    ("draw a.b.c as abcdefgh", Draw, {"address": "a.b.c", "name": "abcdefgh"}),
    ("draw as as as", Draw, {"address": "as", "name": "as"}),
    ("draw draw.as as draw", Draw, {"address": "draw.as", "name": "draw"}),
    ("late a as x", Late, {"address": "a", "name": "x"}),
    ("late a.b.c as x", Late, {"address": "a.b.c", "name": "x"}),
    ("late as as late", Late, {"address": "as", "name": "late"}),
    ("take w from a as x", Take, {"word": "w", "address": "a", "name": "x"}),
    ("take w from a.b.c as w", Take, {"word": "w", "address": "a.b.c", "name": "w"}),
    ("take from from as as as", Take, {"word": "from", "address": "as", "name": "as"}),
    ("take as from from as from", Take, {"word": "as", "address": "from", "name": "from"}),
    ("take take from take.from.as as take", Take, {"word": "take", "address": "take.from.as", "name": "take"}),
    ("need a", Need, {"terms": [(1, "path", ("a",))]}),
    ("need need", Need, {"terms": [(1, "path", ("need",))]}),
    ("need be", Need, {"terms": BE}),
    ("need " + SIX_TERMS, Need, {"terms": READ_SIX_TERMS}),
    ("need " + CALLS, Need, {"terms": READ_CALLS}),
]

NO_TEXTS = [
    None, True, False, 0, 7, -7, 1.5, b"need a", b"part a", [], ["need a"], ["part a"], (), ("need a",),
    {}, {"need a": 1}, {"need a"}, object(), str, len, ValueError("need a"), Need(BE), Part("a", []),
]

NOT_WRITTEN_SO = [
    "", " ", "  ", "\n", "\t", ".", "a", "a b c d", "1", "a + b", "part a", "part", "none", "# need a",
    # words too few
    "let", "let x", "let x be", "let x be ", "deed", "deed x", "deed x be", "draw", "draw a", "draw a as", "draw as",
    "late", "late a", "late a as", "take", "take w", "take w from", "take w from a", "take w from a as",
    "need", "need ",
    "let be 1", "let x 1", "deed be 1", "draw as x", "draw a x", "late as x", "take from a as x", "take w a as x",
    # words too many
    "let x be 1 2", "let x be a b", "let x y be 1", "let x be be 1", "deed x be a b", "draw a as x y", "draw a b as x",
    "draw draw a as x", "late a as x y", "take w from a as x y", "take w from a b as x", "take v w from a as x",
    "need a b", "need need a", "let x be 1 as y", "draw a as x be 1", "draw w from a as x", "need a as x",
    # other words, or in another order
    "let x is 1", "let x = 1", "let x as a", "Let x be 1", "LET x be 1", "lets x be 1", "deeds x be 1", "let x Be 1",
    "draw a be x", "draw a to x", "late a be x", "take w of a as x", "take w as a from x", "take w from a be x",
    "needs a", "x be 1", "let 1 be x", "be x let 1", "a as x", "from a take w as x",
    # what is no name
    "let X be 1", "let x1 be 1", "let a.b be 1", "let abcdefghi be 1", "let 1 be 1", "let f() be 1", "deed a.b be 1",
    "deed abcdefghi be 1", "draw a as a.b", "draw a as A", "draw a as abcdefghi", "draw a as 1", "late a as a.b",
    "late a as abcdefghi", "take a.b from a as x", "take W from a as x", "take abcdefghi from a as x",
    "take w from a as a.b", "take w from a as abcdefghi", "take 1 from a as x", "let  be 1", "draw a as ", "late a as ",
    # what is no address
    "draw a.b.c.d as x", "draw A as x", "draw a. as x", "draw .a as x", "draw a..b as x", "draw 1 as x", "draw  as x",
    "draw abcdefghi as x", "draw a.abcdefghi as x", "draw f() as x", "late a.b.c.d as x", "late a. as x", "late  as x",
    "take w from a.b.c.d as x", "take w from a. as x", "take w from A as x", "take w from  as x", "take w from 1 as x",
    # what is no expression
    "let x be -1", "let x be a+b", "let x be a + ", "let x be + a", "let x be 01", "let x be a.b.c.d.e",
    "let x be f(1)",
    "let x be " + SIX_TERMS + " + 1", "let x be " + "1" * 21, "let x be " + "9" * 5000, "let x be A", "let x be a * b",
    "deed x be -1", "deed x be a b", "deed x be " + SIX_TERMS + " + 1", "deed x be 00", "need -1", "need a+b",
    "need " + SIX_TERMS + " - 1", "need 007", "need a - ", "need - a", "need let x be 1",
    # a deed with a call
    "deed x be f()", "deed x be a.f()", "deed x be a.b.c.d()", "deed x be a + f()", "deed x be f() + a",
    "deed x be 1 + 2 + 3 + 4 + 5 + f()", "deed x be a - f() - b",
    # blanks, tabs and line feeds
    " let x be 1", "let x be 1 ", "let  x be 1", "let x  be 1", "let x be  1", "let\tx be 1", "let x be\t1",
    " draw a as x", "draw a as x ", "draw  a as x", "draw a  as x", "draw a as  x", "draw\ta as x", "draw a as\tx",
    " late a as x", "late a as x ", " take w from a as x", "take w from a as x ", "take w  from a as x",
    "take w from  a as x", " need a", "need a ", "need  a", "need\ta", "need a  + b", " deed x be a", "deed x be a ",
    "let x be 1\n", "\nlet x be 1", "let x\nbe 1", "let x be\n1", "let x be 1\nlet y be 2", "let x be 1\n\n",
    "deed x be a\n", "draw a as x\n", "\ndraw a as x", "draw a\nas x", "draw a as x\ndraw b as y", "late a as x\n",
    "take w from a as x\n", "\ntake w from a as x", "take w\nfrom a as x", "need a\n", "\nneed a", "need\na",
    "need a\nneed b", "need a\t", "let x be 1\t", "draw a as x\t", "take w from a as x\t", "need a\r",
    "draw a as x\r\n",
]


def way_of(text):
    """The class of the row that the text writes and the name it binds, by the patterns; or None."""
    for kind, pattern in WAYS:
        match = pattern.fullmatch(text)
        if match:
            return kind, match.group(1)
    return None


def due(text):
    """What point 18 asks for a text: None where it is read, else the class of the refusal and its place."""
    bound = []
    for at, row in enumerate(text.split("\n")):
        if at == 0:
            if not HEAD.fullmatch(row):
                return NoText, 0
            continue
        way = way_of(row)
        if way is None:
            return NoText, at
        if at == 13:
            return TooMany, at
        if way[1] and way[1] in bound:
            return Twice, at
        bound.append(way[1])
    return None


class Reading(unittest.TestCase):
    def assert_refused(self, read, thing, kind, at):
        with self.assertRaises(kind, msg=repr(thing)[:200]) as taken:
            read(thing)
        self.assertIs(type(taken.exception), kind)
        self.assertIs(type(taken.exception.at), int)
        self.assertEqual(taken.exception.at, at, repr(thing)[:200])

    def check_row(self, text):
        way = way_of(text)
        if way is None:
            self.assert_refused(read_row, text, NoText, 0)
        else:
            row = read_row(text)
            self.assertIs(type(row), way[0], repr(text))
            self.assertEqual((row.binds(), row.said()), (way[1], text))

    def check_part(self, text):
        asked = due(text)
        if asked is None:
            part = read_part(text)
            rows = text.split("\n")
            self.assertIs(type(part), Part)
            self.assertEqual((part.text(), part.address), (text, rows[0][len("part "):]))
            self.assertEqual([type(row) for row in part.rows], [way_of(row)[0] for row in rows[1:]])
            self.assertEqual(part.bound(), [way_of(row)[1] for row in rows[1:] if way_of(row)[1]])
        else:
            self.assert_refused(read_part, text, *asked)


class Rows(Reading):
    def test_each_is_read_to_its_class_and_fields(self):
        for text, kind, fields in TOLD:
            row = read_row(text)
            self.assertIs(type(row), kind, text)
            self.assertIsInstance(row, Row)
            self.assertEqual({name: getattr(row, name) for name in fields}, fields, text)

    def test_each_says_its_text_again(self):
        for text, *_ in TOLD:
            self.assertEqual(read_row(text).said(), text)

    def test_the_rows_own_words_in_each_place(self):
        for one, other, third in itertools.product(OWN_WORDS, repeat=3):
            for text in (
                f"let {one} be {other}", f"deed {one} be {other}.{third}", f"draw {one}.{third} as {other}",
                f"late {one} as {other}", f"take {one} from {other} as {third}", f"need {one} - {other}",
            ):
                self.assertIsNotNone(way_of(text))
                self.check_row(text)

    def test_a_told_row_is_a_new_one(self):
        for text, kind, fields in TOLD:
            first = read_row(text)
            second = read_row(text)
            self.assertIsNot(first, second)
            if "terms" in fields:
                first.terms.clear()
            self.assertEqual(first.asked(), second.asked())
            self.assertEqual((second.said(), read_row(text).said()), (text, text))


class NoRows(Reading):
    def test_each_is_refused(self):
        for text in NOT_WRITTEN_SO:
            self.assert_refused(read_row, text, NoText, 0)

    def test_the_list_tells_what_the_document_does(self):
        for text in NOT_WRITTEN_SO:
            self.assertIsNone(way_of(text), repr(text))

    def test_what_is_no_text_is_refused(self):
        for thing in NO_TEXTS:
            self.assert_refused(read_row, thing, NoText, 0)

    def test_what_is_refused_is_not_changed(self):
        thing = ["need a", ["need b"]]
        self.assert_refused(read_row, thing, NoText, 0)
        self.assert_refused(read_part, thing, NoText, 0)
        self.assertEqual(thing, ["need a", ["need b"]])

    def test_the_refusal_is_a_house_error(self):
        for thing in ("let x be -1", "", None):
            with self.assertRaises(HouseError):
                read_row(thing)


class RowsAgainstTheDocument(Reading):
    """Each text is read just where a pattern of point 14 has it."""

    def test_one_sign_more_less_or_other(self):
        for text, *_ in TOLD:
            for at in range(len(text) + 1):
                self.check_row(text[:at] + text[at + 1:])
                for sign in SIGNS:
                    self.check_row(text[:at] + sign + text[at:])
                    self.check_row(text[:at] + sign + text[at + 1:])

    def test_one_word_more_less_or_other(self):
        others = OWN_WORDS + ["a", "a.b", "a.b.c.d", "1", "f()", "+", "-", ""]
        for text, *_ in TOLD:
            words = text.split(" ")
            for at in range(len(words) + 1):
                self.check_row(" ".join(words[:at] + words[at + 1:]))
                for other in others:
                    self.check_row(" ".join(words[:at] + [other] + words[at:]))
                    self.check_row(" ".join(words[:at] + [other] + words[at + 1:]))

    def test_all_small_rows(self):
        for many in range(5):
            for words in itertools.product(OWN_WORDS[:9] + ["a.b", "1", "f()", ""], repeat=many):
                self.check_row(" ".join(words))

    def test_two_rows_on_end(self):
        for (one, *_), (other, *_) in itertools.product(TOLD, repeat=2):
            for between in ("", " ", "\n", " + ", " be ", " as "):
                self.check_row(one + between + other)


def lets(many):
    return ["let " + "abcdefghijklmnopqrst"[at] + " be 1" for at in range(many)]


def text_of(*rows):
    return "\n".join(["part p"] + list(rows))


class Parts(Reading):
    def test_of_all_six(self):
        rows = ["let a be 1", "deed b be a", "draw q.r as c", "late s as d", "take w from t as e", "need a + c.x"]
        part = read_part("part a.b.c\n" + "\n".join(rows))
        self.assertIs(type(part), Part)
        self.assertEqual(part.address, "a.b.c")
        self.assertEqual([type(row) for row in part.rows], [Let, Deed, Draw, Late, Take, Need])
        self.assertEqual([row.said() for row in part.rows], rows)
        self.assertEqual(part.bound(), ["a", "b", "c", "d", "e"])
        self.assertEqual(part.place_of("e"), 4)

    def test_without_rows(self):
        for address in ("a", "part", "a.b", "let.be.as", "abcdefgh.abcdefgh.abcdefgh"):
            part = read_part("part " + address)
            self.assertEqual((part.address, part.rows, part.text()), (address, [], "part " + address))

    def test_names_that_are_the_rows_own_words(self):
        text = "part part\nlet let be be\ndraw as as as\ntake from from as as from\ndeed be be let\nneed need"
        part = read_part(text)
        self.assertEqual(part.bound(), ["let", "as", "from", "be"])
        self.assertEqual(part.text(), text)

    def test_the_twelfth_row(self):
        part = read_part(text_of(*lets(12)))
        self.assertEqual((len(part.rows), part.place_of("l")), (12, 11))

    def test_twelve_needs(self):
        part = read_part(text_of(*["need a"] * 12))
        self.assertEqual((len(part.rows), part.bound()), (12, []))

    def test_a_told_part_is_a_new_one(self):
        text = text_of("let a be 1", "draw q as b", "need a")
        first = read_part(text)
        second = read_part(text)
        first.rows.clear()
        self.assertEqual((second.text(), read_part(text).text()), (text, text))


class NoParts(Reading):
    def test_the_first_row(self):
        heads = [
            "", " ", "part", "part ", " part a", "part a ", "part  a", "part\ta", "part a\t", "Part a", "parts a",
            "part A", "part a.b.c.d", "part .a", "part a.", "part a..b", "part abcdefghi", "part a b", "part a as b",
            "part 1", "part f()", "a", "need a", "let a be 1", "part part a", "parta", "part a\r",
        ]
        for head in heads:
            for rest in ("", "\nneed a", "\n", "\nbad", "\n" + "\n".join(lets(13))):
                self.assert_refused(read_part, head + rest, NoText, 0)

    def test_what_is_no_text(self):
        for thing in NO_TEXTS:
            self.assert_refused(read_part, thing, NoText, 0)

    def test_a_row_without_signs_at_the_end(self):
        self.assert_refused(read_part, "part a\n", NoText, 1)
        self.assert_refused(read_part, "part a\n\n", NoText, 1)
        self.assert_refused(read_part, "part a\nneed a\n", NoText, 2)
        self.assert_refused(read_part, text_of(*lets(12)) + "\n", NoText, 13)

    def test_a_row_without_signs_at_the_beginning(self):
        self.assert_refused(read_part, "\npart a", NoText, 0)
        self.assert_refused(read_part, "\n", NoText, 0)

    def test_rows_that_are_nearly_rows(self):
        for text in NOT_WRITTEN_SO:
            if "\n" not in text:
                self.assert_refused(read_part, text_of(text), NoText, 1)
                self.assert_refused(read_part, text_of("let q be 1", text, "need q"), NoText, 2)

    def test_the_parts_own_row_once_more(self):
        self.assert_refused(read_part, text_of("need a", "part p"), NoText, 2)

    def test_the_first_wrong_row_of_several(self):
        for at in range(1, 12):
            rows = ["need a"] * 12
            rows[at - 1] = "bad"
            rows[11] = "worse"
            self.assert_refused(read_part, text_of(*rows), NoText, at)
        self.assert_refused(read_part, text_of("let a be 1", "let a be 2", "bad"), Twice, 2)
        self.assert_refused(read_part, text_of("let a be 1", "bad", "let a be 2"), NoText, 2)

    def test_the_thirteenth_row(self):
        self.assert_refused(read_part, text_of(*lets(13)), TooMany, 13)
        self.assert_refused(read_part, text_of(*lets(14)), TooMany, 13)
        self.assert_refused(read_part, text_of(*["need a"] * 13), TooMany, 13)
        self.assert_refused(read_part, text_of(*["need a"] * 5000), TooMany, 13)

    def test_several_are_due_at_the_thirteenth_row(self):
        self.assert_refused(read_part, text_of(*lets(12), "bad"), NoText, 13)
        self.assert_refused(read_part, text_of(*lets(12), ""), NoText, 13)
        self.assert_refused(read_part, text_of(*lets(12), "let a be 2"), TooMany, 13)
        self.assert_refused(read_part, text_of(*lets(12), "let a be -2"), NoText, 13)

    def test_ahead_of_the_thirteenth_row_another_refusal(self):
        self.assert_refused(read_part, text_of(*lets(11), "let a be 2", "let m be 1"), Twice, 12)
        self.assert_refused(read_part, text_of(*lets(11), "bad", "let m be 1"), NoText, 12)

    def test_a_name_bound_twice(self):
        binding = ["let x be 1", "deed x be 1", "draw a as x", "late a as x", "take w from a as x"]
        for one, other in itertools.product(binding, repeat=2):
            self.assert_refused(read_part, text_of(one, other), Twice, 2)
            self.assert_refused(read_part, text_of("need x", one, "let y be 1", "need x", other), Twice, 5)

    def test_a_name_bound_three_times(self):
        self.assert_refused(read_part, text_of("let a be 1", "let b be 1", "let b be 1", "let a be 1"), Twice, 3)

    def test_names_that_are_only_read_are_not_bound(self):
        rows = ["need x", "need x", "take x from y as z", "draw y.x as y", "let x be x"]
        self.assertEqual(read_part(text_of(*rows)).bound(), ["z", "y", "x"])


class PartsAgainstTheDocument(Reading):
    """Each text is read or refused as the words of point 18, over the patterns, have it."""

    def test_all_small_parts(self):
        rows = ["let a be 1", "deed a be b", "draw b as b", "need a", "bad", "", "part p"]
        for many in range(5):
            for some in itertools.product(rows, repeat=many):
                self.check_part("\n".join(some))
                self.check_part(text_of(*some))

    def test_two_rows_of_many_otherwise(self):
        others = ["need a", "let a be 2", "let e be 2", "take a from b as m", "", "deed z be f()"]
        for many in (11, 12, 13, 14):
            for one, other in itertools.combinations(range(many), 2):
                for first, second in itertools.product(others, repeat=2):
                    rows = lets(many)
                    rows[one] = first
                    rows[other] = second
                    self.check_part(text_of(*rows))

    def test_one_sign_more_less_or_other(self):
        text = "part a.b\nlet x be 1\nneed x"
        for at in range(len(text) + 1):
            self.check_part(text[:at] + text[at + 1:])
            for sign in SIGNS:
                self.check_part(text[:at] + sign + text[at:])
                self.check_part(text[:at] + sign + text[at + 1:])


if __name__ == "__main__":
    unittest.main()
