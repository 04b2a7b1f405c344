"""Point 13: expressions, read to their terms and shown again."""

import itertools
import re
import unittest

from drawhouse.errors import HouseError, NoExpr
from drawhouse.exprs import has_call, read_expr, show_expr

SIGNS = [chr(code) for code in range(ord(" "), ord("~") + 1)] + ["\t", "\n"]
NAME = "[a-z]{1,8}"
TERM = rf"(?:0|[1-9][0-9]{{0,19}}|{NAME}(?:\.{NAME}){{0,3}}(?:\(\))?)"
EXPR = re.compile(rf"{TERM}(?: [+-] {TERM}){{0,5}}")
GREATEST = 10 ** 20 - 1

TOLD = [
    ("0", [(1, "number", 0)]),
    ("7", [(1, "number", 7)]),
    ("10", [(1, "number", 10)]),
    ("1234567890", [(1, "number", 1234567890)]),
    ("10000000000000000000", [(1, "number", 10 ** 19)]),
    ("9" * 20, [(1, "number", GREATEST)]),
    ("a", [(1, "path", ("a",))]),
    ("abcdefgh", [(1, "path", ("abcdefgh",))]),
    ("a.b", [(1, "path", ("a", "b"))]),
    ("a.b.c", [(1, "path", ("a", "b", "c"))]),
    ("a.b.c.d", [(1, "path", ("a", "b", "c", "d"))]),
    ("a.a.a.a", [(1, "path", ("a", "a", "a", "a"))]),
    ("f()", [(1, "call", ("f",))]),
    ("a.f()", [(1, "call", ("a", "f"))]),
    ("a.b.f()", [(1, "call", ("a", "b", "f"))]),
    ("a.b.c.f()", [(1, "call", ("a", "b", "c", "f"))]),
    ("number", [(1, "path", ("number",))]),
    ("call()", [(1, "call", ("call",))]),
    ("let - be", [(1, "path", ("let",)), (-1, "path", ("be",))]),
    ("a + b", [(1, "path", ("a",)), (1, "path", ("b",))]),
    ("0 - 0", [(1, "number", 0), (-1, "number", 0)]),
    (
        "a.b + 12 - a.f()",
        [(1, "path", ("a", "b")), (1, "number", 12), (-1, "call", ("a", "f"))],
    ),
    ("a - b - c", [(1, "path", ("a",)), (-1, "path", ("b",)), (-1, "path", ("c",))]),
    (
        "f() - 1 + a - 2",
        [(1, "call", ("f",)), (-1, "number", 1), (1, "path", ("a",)), (-1, "number", 2)],
    ),
    (
        "1 - 2 + 3 - 4 + 5",
        [(1, "number", 1), (-1, "number", 2), (1, "number", 3), (-1, "number", 4), (1, "number", 5)],
    ),
    (
        "abcdefgh.b.c.d() - " + "9" * 20 + " - a + 0 + f() - b.c",
        [
            (1, "call", ("abcdefgh", "b", "c", "d")),
            (-1, "number", GREATEST),
            (-1, "path", ("a",)),
            (1, "number", 0),
            (1, "call", ("f",)),
            (-1, "path", ("b", "c")),
        ],
    ),
]

NO_TEXTS = [
    None, True, False, 0, 7, -7, 1.5, b"a", [], ["a"], (), ("a",), [(1, "path", ("a",))],
    {}, {"a": 1}, {"a"}, object(), str, len, ValueError("a"),
]

NOT_WRITTEN_SO = [
    "", " ", "  ", "\n", "\t", "+", "-", ".", "()", "(", ")", "+ -", "+ + +", "- + -",
    # too many of a thing
    "a + b + c + d + e + f + g", "1 - 2 - 3 - 4 - 5 - 6 - 7", " + ".join(["a"] * 1000),
    "a.b.c.d.e", "a.b.c.d.e()", ".".join(["a"] * 1000),
    "1" * 21, "9" * 21, "9" * 5000, "a + " + "9" * 5000, "0" * 5000, "1" * 21 + " + a",
    "abcdefghi", "a.abcdefghi", "abcdefghi()", "a.b.c.abcdefghi",
    # noughts ahead
    "00", "01", "007", "0" * 20, "0" * 19 + "1", "a + 01", "00 - a",
    # signs ahead of the first term, or behind the last one
    "-1", "+1", "- 1", "+ 1", "-a", "+a", "- a", "+ a", "- a + b", "+ a - b", "a +", "a -", "a + ", "a - b -",
    # blanks too many or too few
    " a", "a ", " a ", "  a", "a  ", "a  + b", "a +  b", "a  +  b", "a+b", "a +b", "a+ b", "a-b", "a -b", "a- b",
    "a b", "a b c", "1 2", "a + b c", "a . b", "a. b", "a .b", "a ()", "a( )", "f (1)", " a + b", "a + b ",
    # other signs between two terms
    "a ++ b", "a + - b", "a +- b", "a * b", "a / b", "a, b", "a & b", "a  b", "a + + b", "a + + + b", "a _ b",
    # tabs and line feeds
    "a\n", "\na", "a\t", "\ta", "1\n", "1\t", "f()\n", "f()\t", "a +\nb", "a\n+ b", "a\t+\tb", "a + b\n", "a + b\t",
    "a.\nb", "a\n.b", "a + \nb", "\n1", "f(\n)", "a + b - c()\n", "a\n\n", "a\r",
    # letters and figures where they don't stand
    "A", "aB", "a.B", "F()", "a1", "1a", "a.1", "1.a", "1.5", "a.b1", "1()", "0()", "0x1", "1e5", "1_000", "a_b", "_",
    "--1", "+-1", "1-", "1+",
    # brackets
    "a(", "a)", "a)(", "(a)", "()a", "a(b)", "a(1)", "a()()", "a()b", "a().b", "a.()", ".a()", "a..b()", "a().b()",
    "a(()", "a())", "a[]", "a{}", "f() ()", "f()1", "f() 1",
    # points
    ".a", "a.", "..", "a..b", ".a.b", "a.b.", "a...b", ".1", "1.", "a.b.c.d.", ".a.b.c.d",
]


def is_written_so(text):
    return EXPR.fullmatch(text) is not None


class Written(unittest.TestCase):
    def test_each_is_read_to_its_terms(self):
        for text, terms in TOLD:
            self.assertEqual(read_expr(text), terms, text)

    def test_each_is_shown_again_as_the_same_text(self):
        for text, terms in TOLD:
            self.assertEqual(show_expr(terms), text)
            self.assertEqual(show_expr(read_expr(text)), text)

    def test_the_kinds_of_what_is_told(self):
        for text, _ in TOLD:
            terms = read_expr(text)
            self.assertIs(type(terms), list)
            for term in terms:
                self.assertIs(type(term), tuple)
                sign, sort, thing = term
                self.assertIs(type(sign), int)
                self.assertIs(type(sort), str)
                self.assertIs(type(thing), int if sort == "number" else tuple)
                self.assertIs(type(show_expr(terms)), str)

    def test_numbers_of_each_length(self):
        for many in range(1, 21):
            for text in ("1" + "0" * (many - 1), "9" * many, "12345678901234567890"[:many]):
                self.assertEqual(read_expr(text), [(1, "number", int(text))])
                self.assertEqual(show_expr([(1, "number", int(text))]), text)

    def test_one_to_six_terms_of_all_signs(self):
        words = ["a", "1", "f()", "b.c", "0", "d.e.g()"]
        read = [
            ("path", ("a",)), ("number", 1), ("call", ("f",)),
            ("path", ("b", "c")), ("number", 0), ("call", ("d", "e", "g")),
        ]
        for many in range(1, 7):
            for signs in itertools.product((1, -1), repeat=many - 1):
                text = words[0]
                terms = [(1, *read[0])]
                for at, sign in enumerate(signs, 1):
                    text += {1: " + ", -1: " - "}[sign] + words[at]
                    terms.append((sign, *read[at]))
                self.assertEqual(read_expr(text), terms)
                self.assertEqual(show_expr(terms), text)

    def test_terms_handed_in_are_not_changed(self):
        for _, terms in TOLD:
            handed = list(terms)
            show_expr(handed)
            has_call(handed)
            self.assertEqual(handed, terms)

    def test_terms_handed_in_may_be_changed_behind(self):
        terms = [(1, "path", ("a",)), (1, "call", ("f",))]
        self.assertEqual((show_expr(terms), has_call(terms)), ("a + f()", True))
        terms.pop()
        self.assertEqual((show_expr(terms), has_call(terms)), ("a", False))
        terms.append((-1, "number", 3))
        self.assertEqual((show_expr(terms), has_call(terms)), ("a - 3", False))


class Calls(unittest.TestCase):
    def test_with_a_call_at_each_place(self):
        for many in range(1, 7):
            for at in range(many):
                words = ["call"] * many
                words[at] = "a.f()"
                self.assertIs(has_call(read_expr(" - ".join(words))), True)

    def test_without_a_call(self):
        for text in ("a", "0", "call", "f.call", "a.b.c.d", "a + 1 - b", "call + call.call - 1 + 2 + 3 + 4"):
            self.assertIs(has_call(read_expr(text)), False, text)

    def test_of_all_that_is_told(self):
        for text, terms in TOLD:
            self.assertIs(has_call(terms), "(" in text, text)


class TheAskersOwn(unittest.TestCase):
    def test_a_told_list_may_be_changed(self):
        for text, terms in TOLD:
            first = read_expr(text)
            second = read_expr(text)
            first.append((1, "number", 5))
            first[0] = (1, "path", ("z",))
            self.assertEqual(second, terms)
            self.assertEqual(read_expr(text), terms)
            first.clear()
            self.assertEqual(read_expr(text), terms)
            self.assertEqual(show_expr(second), text)

    def test_nothing_asked_later_changes_a_told_list(self):
        told = [read_expr(text) for text, _ in TOLD]
        self.assertEqual(told, [terms for _, terms in TOLD])


class NotWritten(unittest.TestCase):
    def assert_refused(self, thing):
        with self.assertRaises(NoExpr, msg=repr(thing)[:80]) as taken:
            read_expr(thing)
        self.assertIsInstance(taken.exception, HouseError)

    def test_each_is_refused(self):
        for text in NOT_WRITTEN_SO:
            self.assert_refused(text)

    def test_what_is_no_text_is_refused(self):
        for thing in NO_TEXTS:
            self.assert_refused(thing)

    def test_what_is_refused_is_not_changed(self):
        thing = ["a", ["b"]]
        self.assert_refused(thing)
        self.assertEqual(thing, ["a", ["b"]])

    def test_a_good_text_is_read_behind_it_as_ahead(self):
        good = "a.b + 12 - a.f()"
        terms = dict(TOLD)[good]
        self.assertEqual(read_expr(good), terms)
        for thing in NOT_WRITTEN_SO + NO_TEXTS:
            self.assert_refused(thing)
            self.assertEqual(read_expr(good), terms)

    def test_the_list_tells_what_the_document_does(self):
        for text in NOT_WRITTEN_SO:
            self.assertFalse(is_written_so(text), repr(text))


class AgainstTheDocument(unittest.TestCase):
    """Each text is read just where a pattern of point 13 has it."""

    def check(self, text):
        try:
            terms = read_expr(text)
        except NoExpr:
            self.assertFalse(is_written_so(text), repr(text))
        else:
            self.assertTrue(is_written_so(text), repr(text))
            self.assertEqual(show_expr(terms), text)
            self.assertIs(has_call(terms), "(" in text)

    def test_all_small_texts(self):
        for many in range(6):
            for signs in itertools.product("a01 +-.()\n", repeat=many):
                self.check("".join(signs))

    def test_one_sign_more_less_or_other(self):
        for text, _ in TOLD:
            for at in range(len(text) + 1):
                self.check(text[:at] + text[at + 1:])
                for sign in SIGNS:
                    self.check(text[:at] + sign + text[at:])
                    self.check(text[:at] + sign + text[at + 1:])

    def test_two_texts_on_end(self):
        for (one, _), (other, _) in itertools.product(TOLD, repeat=2):
            for between in ("", " ", ".", " + ", " - ", "+", "\n", " +  "):
                self.check(one + between + other)


if __name__ == "__main__":
    unittest.main()
