"""Rows and parts, read from their texts."""

from drawhouse.errors import NoExpr, NoText, TooMany, Twice
from drawhouse.exprs import has_call, read_expr
from drawhouse.parts import Part
from drawhouse.rows import Deed, Draw, Late, Let, Need, Take
from drawhouse.words import is_address, is_name

MOST_ROWS = 12


def names_expr(words):
    return len(words) > 3 and is_name(words[1]) and words[2] == "be"


def names_address(words):
    return len(words) == 4 and is_address(words[1]) and words[2] == "as" and is_name(words[3])


def names_word(words):
    if len(words) != 6 or words[2] != "from" or words[4] != "as":
        return False
    return is_name(words[1]) and is_address(words[3]) and is_name(words[5])


def terms_from(words, at):
    # Blanks stand within an expression too, so it is all the words from there on.
    return read_expr(" ".join(words[at:]))


def deed_of(name, terms):
    if has_call(terms):
        return None
    return Deed(name, terms)


def row_of(words):
    first = words[0]
    if first == "let" and names_expr(words):
        return Let(words[1], terms_from(words, 3))
    if first == "deed" and names_expr(words):
        return deed_of(words[1], terms_from(words, 3))
    if first == "draw" and names_address(words):
        return Draw(words[1], words[3])
    if first == "late" and names_address(words):
        return Late(words[1], words[3])
    if first == "take" and names_word(words):
        return Take(words[1], words[3], words[5])
    if first == "need":
        return Need(terms_from(words, 1))
    return None


def row_at(text, at):
    try:
        row = row_of(text.split(" "))
    except NoExpr:
        raise NoText(at) from None
    if row is None:
        raise NoText(at)
    return row


def read_row(text):
    if not isinstance(text, str):
        raise NoText(0)
    return row_at(text, 0)


def read_head(text):
    words = text.split(" ")
    if len(words) != 2 or words[0] != "part" or not is_address(words[1]):
        raise NoText(0)
    return words[1]


def read_part(text):
    if not isinstance(text, str):
        raise NoText(0)
    lines = text.split("\n")
    address = read_head(lines[0])
    rows = []
    for at, line in enumerate(lines[1:], start=1):
        row = row_at(line, at)
        if at > MOST_ROWS:
            raise TooMany(at)
        if row.binds() in Part(address, rows).bound():
            raise Twice(at)
        rows.append(row)
    return Part(address, rows)
