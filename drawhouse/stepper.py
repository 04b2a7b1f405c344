"""A draw, gone through event by event."""


class Moment:
    """What parts show: at first what a shelf shows, then what it would show behind each further event."""

    def __init__(self, shelf):
        self.begun = []
        self.held = {}
        for address in shelf.filled():
            self.held[address] = shelf.names(address)

    def go_on(self, event):
        kind = event[0]
        if kind == "begin":
            self.held[event[1]] = []
            self.begun.append((event[1], 0))
        elif kind == "row":
            self.begun[-1] = (event[1], event[2])
        elif kind == "bind":
            self.held[event[1]].append((event[2], event[3]))
        elif kind == "end":
            self.begun.pop()

    def where(self):
        return list(self.begun)

    def word_of(self, address):
        if any([one == address for one, at in self.begun]):
            return "filling"
        return "filled"

    def shows(self):
        return [(address, self.word_of(address), list(self.held[address])) for address in sorted(self.held)]


class Stepper:
    def __init__(self, shelf, address):
        self.moment = Moment(shelf)
        # All of them at once, as the shelf may go on before they are asked for.
        self.events = shelf.would_tell(address)
        self.gone = 0

    def next_event(self):
        if self.gone == len(self.events):
            return None
        event = self.events[self.gone]
        self.gone += 1
        self.moment.go_on(event)
        return event

    def where(self):
        return self.moment.where()

    def shows(self):
        return self.moment.shows()
