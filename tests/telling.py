"""What several tests need: houses by chance, always the same ones, and a second telling of points 24 to 31, 35, 39, 40.

The telling goes by texts alone, and keeps nothing but the events: what is bound, who is filling and what was touched
it finds from them each time. Demanding tells likewise what names mean on demand, and keeps nothing but the meanings.
"""

import random

from drawhouse.errors import Fault
from drawhouse.house import House
from drawhouse.reader import read_part

ADDRESSES = ["a", "a.b", "a.b.c", "a.c", "b", "b.a", "c", "c.d", "d", "e", "f", "g"]
NAMES = ["k", "l", "m", "n", "o", "p", "q", "r", "s", "t", "u", "v"]


def house_of(*texts):
    return House([read_part(text) for text in texts])


def fault_of(ask):
    """None, or the fault as (word, trail, whose, name)."""
    try:
        ask()
    except Fault as fault:
        return (fault.word, fault.trail, fault.whose, fault.name)
    return None


def up_to(address):
    names = address.split(".")
    return [".".join(names[:many]) for many in range(1, len(names) + 1)]


def bound_in(row):
    words = row.split(" ")
    return {"let": words[1], "deed": words[1], "need": ""}.get(words[0], words[-1])


class Chance:
    """Houses by chance: rows mostly read what may be there, so that many draws come far, and others don't."""

    def __init__(self, seed, parts=6, rows=5):
        self.random = random.Random(seed)
        self.most_parts = parts
        self.most_rows = rows

    def likely(self, of_a_hundred):
        return self.random.randrange(100) < of_a_hundred

    def addresses(self):
        some = self.random.sample(ADDRESSES, self.random.randint(1, self.most_parts))
        closed = list(dict.fromkeys(prefix for address in some for prefix in up_to(address)))[:12]
        self.random.shuffle(closed)
        return [address for address in closed if set(up_to(address)) <= set(closed)]

    def heads(self, address, addresses):
        """The rows of a part but for their expressions: (kind, name, address, word)."""
        names = [name for name in NAMES if f"{address}.{name}" not in addresses]
        names = self.random.sample(names, self.random.randint(0, self.most_rows))
        kinds = ["let", "let", "deed", "draw", "draw", "late", "take", "need"]
        rows = []
        for name in names:
            other = self.random.choice(addresses if self.likely(95) else ADDRESSES)
            beneath = [one.split(".")[-1] for one in addresses if one.startswith(other + ".")]
            word = self.random.choice(beneath if beneath and self.likely(40) else NAMES)
            rows.append((self.random.choice(kinds), name, other, word))
        return rows

    def path(self, heads, address, at):
        """A path and the kind of its last row, "" where it is of no row."""
        names, kind = [], ""
        while len(names) < 4:
            rows = heads.get(address, [])
            ahead = [row for row in rows[:at] if row[0] != "need"] if self.likely(90) else rows
            if not ahead or self.likely(3):
                return (names, kind) if names and self.likely(90) else (names + [self.random.choice(NAMES)], "")
            kind, name, address, _ = self.random.choice(ahead)
            names.append(name)
            if kind in ("let", "deed", "take") and not self.likely(4) or self.likely(20):
                break
            at = len(heads.get(address, []))
        return names, kind

    def term(self, heads, address, at, calls):
        names, kind = self.path(heads, address, at)
        if not kind and not self.likely(15) or self.likely(10):
            return str(self.random.randint(0, 9))
        return ".".join(names) + ("()" if calls and self.likely(80 if kind == "deed" else 3) else "")

    def expression(self, heads, address, at, calls):
        text = self.term(heads, address, at, calls)
        for _ in range(self.random.choice([0, 0, 0, 1, 2])):
            text += self.random.choice([" + ", " - "]) + self.term(heads, address, at, calls)
        return text

    def row(self, heads, address, at):
        kind, name, other, word = heads[address][at]
        if kind in ("draw", "late"):
            return f"{kind} {other} as {name}"
        if kind == "take":
            names = [row[1] for row in heads.get(other, [])]
            word = self.random.choice(names) if names and self.likely(80) else word
            return f"take {word} from {other} as {name}"
        text = self.expression(heads, address, at, kind != "deed")
        return f"need {text}" if kind == "need" else f"{kind} {name} be {text}"

    def texts(self):
        addresses = self.addresses()
        heads = {address: self.heads(address, addresses) for address in addresses}
        texts = []
        for address in addresses:
            rows = [self.row(heads, address, at) for at in range(len(heads[address]))]
            texts.append("\n".join([f"part {address}"] + rows))
        return texts

    def draws(self, texts, many):
        """Addresses to be drawn one after another, of the house or, now and then, not."""
        known = [text.split("\n")[0].split(" ")[1] for text in texts]
        return [self.random.choice(known if self.likely(95) else ADDRESSES) for _ in range(many)]


class Met(Exception):
    pass


class Telling:
    def __init__(self, texts):
        self.rows = {text.split("\n")[0].split(" ")[1]: text.split("\n")[1:] for text in texts}
        self.events = []

    def draw(self, address):
        """The events, and None or the fault as (word, trail, whose, name); where it is refused nothing stays."""
        ahead = len(self.events)
        try:
            self.come_by(address)
        except Met as met:
            word, whose, name = met.args
            fault, log = (word, self.filling(), whose, name), self.events[ahead:]
            self.events = self.events[:ahead]
            return log, fault
        return self.events[ahead:], None

    def behind(self, events):
        """Another telling, of the same house, with just these events behind it."""
        other = Telling([])
        other.rows, other.events = self.rows, list(events)
        return other

    def shows(self):
        filling = [address for address, _ in self.filling()]
        shown = sorted(event[1] for event in self.events if event[0] == "begin")
        return [(one, "filling" if one in filling else "filled", self.names(one)) for one in shown]

    def filling(self):
        stack = []
        for event in self.events:
            if event[0] == "begin":
                stack.append((event[1], 0))
            elif event[0] == "row":
                stack[-1] = event[1:]
            elif event[0] == "end":
                stack.pop()
        return stack

    def filled(self):
        return [event[1] for event in self.events if event[0] == "end"]

    def names(self, address):
        return [event[2:] for event in self.events if event[0] == "bind" and event[1] == address]

    def touched(self, address):
        stack, found = [], set(up_to(address)[-2:-1])
        for event in self.events:
            if event[0] in ("begin", "there", "see") and stack[-1:] == [address]:
                found.add(event[1])
            if event[0] == "begin":
                stack.append(event[1])
            elif event[0] == "end":
                stack.pop()
        return sorted(found - {address})

    def come_by(self, address):
        for prefix in up_to(address):
            if prefix not in self.rows:
                raise Met("unknown", prefix, "")
            if ("begin", prefix) in self.events:
                self.events.append(("there", prefix))
                continue
            self.events.append(("begin", prefix))
            for at, row in enumerate(self.rows[prefix]):
                self.events.append(("row", prefix, at))
                self.obey(prefix, row)
            self.events.append(("end", prefix))

    def obey(self, address, row):
        kind, *words = row.split(" ")
        if kind == "need":
            self.value(address, words)
            return
        if kind == "let":
            value = self.value(address, words[2:])
        elif kind == "deed":
            value = ("deed", address, words[0], " ".join(words[2:]))
        elif kind == "late":
            value = ("late", words[0])
        elif kind == "draw":
            self.come_by(words[0])
            value = ("part", words[0])
        else:
            value = self.take(words[0], words[2])
        self.events.append(("bind", address, bound_in(row), value))

    def take(self, word, address):
        self.come_by(address)
        if f"{address}.{word}" not in self.rows:
            return self.see(address, word)
        self.come_by(f"{address}.{word}")
        return ("part", f"{address}.{word}")

    def see(self, address, name):
        values = [value for bound, value in self.names(address) if bound == name]
        if not values:
            binds = [bound_in(row) for row in self.rows[address]]
            raise Met("unfilled" if name in binds else "missing", address, name)
        self.events.append(("see", address, name, values[0]))
        if isinstance(values[0], tuple) and values[0][0] == "late":
            self.come_by(values[0][1])
            return ("part", values[0][1])
        return values[0]

    def value(self, address, words):
        if len(words) == 1:
            return self.term(address, words[0])[0]
        total = 0
        for sign, word in zip(["+"] + words[1::2], words[::2]):
            value, last = self.term(address, word)
            if isinstance(value, tuple):
                raise Met("nonumber", *last)
            total = total + value if sign == "+" else total - value
        return total

    def term(self, address, word):
        if word[0] in "0123456789":
            return int(word), None
        first, *others = word.replace("()", "").split(".")
        last = (address, first)
        value = self.see(*last)
        for name in others:
            if isinstance(value, int) or value[0] == "deed":
                raise Met("nopart", *last)
            last = (value[1], name)
            value = self.see(*last)
        if word.endswith("()"):
            if isinstance(value, int) or value[0] == "part":
                raise Met("nodeed", *last)
            self.events.append(("call", value[1], value[2]))
            value = self.value(value[1], value[3].split(" "))
            self.events.append(("back", value))
        return value, last


class Demanding(Telling):
    """Point 39: nothing is drawn, and a name is read whatever row stands ahead of its own."""

    def __init__(self, texts):
        super().__init__(texts)
        self.meanings = {}

    def come_by(self, address):
        for prefix in up_to(address):
            if prefix not in self.rows:
                raise Met("unknown", prefix, "")

    def see(self, address, name):
        if name not in [bound_in(row) for row in self.rows[address]]:
            raise Met("missing", address, name)
        if (address, name) not in self.meanings:
            raise Met("waits", address, name)
        value = self.meanings[address, name]
        if isinstance(value, tuple) and value[0] == "late":
            self.come_by(value[1])
            return ("part", value[1])
        return value

    def well(self, address, row):
        try:
            self.obey(address, row)
        except Met as met:
            return met.args[:3] if met.args[0] == "waits" else ("fault", *met.args)
        return ("is", self.events[-1][3])

    def wells(self, shuffled):
        """Point 40: one row that goes through at a time, the first one of the rows as shuffled."""
        rows = [(one, row) for one in sorted(self.rows) for row in self.rows[one] if not row.startswith("need ")]
        while True:
            left = [(one, row) for one, row in shuffled(rows) if (one, bound_in(row)) not in self.meanings]
            found = [(one, row) for one, row in left if self.well(one, row)[0] == "is"]
            if not found:
                return {(one, bound_in(row)): self.well(one, row) for one, row in rows}
            one, row = found[0]
            self.meanings[one, bound_in(row)] = self.well(one, row)[1]
