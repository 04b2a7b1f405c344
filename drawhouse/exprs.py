"""Expressions: read from their text to terms, and shown again."""

from drawhouse.errors import NoExpr
from drawhouse.words import are_names

# Written out, as Python's own isdigit takes figures of other scripts too.
FIGURES = "0123456789"
MOST_FIGURES = 20
MOST_TERMS = 6
MOST_STEPS = 4


def is_number(word):
    # The length first: Python refuses to read some thousands of figures.
    if len(word) < 1 or len(word) > MOST_FIGURES:
        return False
    if word[0] == "0" and word != "0":
        return False
    return all([sign in FIGURES for sign in word])


def read_path(word):
    if not are_names(word, MOST_STEPS):
        raise NoExpr("a term is no number, no path and no call")
    return tuple(word.split("."))


def read_term(sign, word):
    if is_number(word):
        return (sign, "number", int(word))
    if word.endswith("()"):
        return (sign, "call", read_path(word[:-2]))
    return (sign, "path", read_path(word))


def read_sign(word):
    if word == "+":
        return 1
    if word == "-":
        return -1
    raise NoExpr("no sign stands between two terms")


def read_expr(text):
    if not isinstance(text, str):
        raise NoExpr("an expression is read from a text")
    words = text.split(" ")
    if len(words) % 2 == 0:
        raise NoExpr("terms and signs don't take turns")
    if len(words) > 2 * MOST_TERMS - 1:
        raise NoExpr("more than six terms")
    terms = [read_term(1, words[0])]
    for at in range(1, len(words), 2):
        terms.append(read_term(read_sign(words[at]), words[at + 1]))
    return terms


def show_term(kind, thing):
    if kind == "number":
        return str(thing)
    path = ".".join(thing)
    if kind == "call":
        return path + "()"
    return path


def show_expr(terms):
    shown = []
    for sign, kind, thing in terms:
        # The first term has no sign ahead of it: it is always 1.
        if len(shown) > 0:
            shown.append("+" if sign == 1 else "-")
        shown.append(show_term(kind, thing))
    return " ".join(shown)


def has_call(terms):
    return any([term[1] == "call" for term in terms])
