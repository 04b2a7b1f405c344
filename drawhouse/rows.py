"""The rows of a part, in the six ways in which one is written."""

from drawhouse.exprs import show_expr


class Row:
    def binds(self):
        return ""

    def asked(self):
        return []

    def said(self):
        return ""


class Let(Row):
    def __init__(self, name, terms):
        self.name = name
        # A list of its own, here and below, as whoever hands the terms in may go on changing them.
        self.terms = list(terms)

    def binds(self):
        return self.name

    def said(self):
        return "let " + self.name + " be " + show_expr(self.terms)


class Deed(Row):
    def __init__(self, name, terms):
        self.name = name
        self.terms = list(terms)

    def binds(self):
        return self.name

    def said(self):
        return "deed " + self.name + " be " + show_expr(self.terms)


class Draw(Row):
    def __init__(self, address, name):
        self.address = address
        self.name = name

    def binds(self):
        return self.name

    def asked(self):
        return [self.address]

    def said(self):
        return "draw " + self.address + " as " + self.name


class Late(Row):
    def __init__(self, address, name):
        self.address = address
        self.name = name

    def binds(self):
        return self.name

    def asked(self):
        return [self.address]

    def said(self):
        return "late " + self.address + " as " + self.name


class Take(Row):
    def __init__(self, word, address, name):
        self.word = word
        self.address = address
        self.name = name

    def binds(self):
        return self.name

    def asked(self):
        return [self.address]

    def said(self):
        return "take " + self.word + " from " + self.address + " as " + self.name


class Need(Row):
    def __init__(self, terms):
        self.terms = list(terms)

    def said(self):
        return "need " + show_expr(self.terms)
