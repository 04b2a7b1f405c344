"""A shelf: the parts of a house that are filled, and the draws that filled them."""

from drawhouse.errors import Fault, NoName, NoPart
from drawhouse.filling import Filling


class Shelf:
    def __init__(self, house):
        self.house = house
        self.stand = Filling(house)
        self.drawn = []

    def draw(self, address):
        # On a copy: a draw that is refused leaves all as it was.
        trial = self.stand.copied()
        trial.draw_step(address)
        self.stand = trial
        self.drawn.append((address, trial.log()))
        return trial.log()

    def would_tell(self, address):
        """The events that a draw would have now, with the fault event behind them where it would be refused."""
        trial = self.stand.copied()
        try:
            trial.draw_step(address)
        except Fault as fault:
            trial.note(("fault", fault.word, fault.whose, fault.name))
        return trial.log()

    def filled(self):
        return self.stand.filled()

    def has_filled(self, address):
        return address in self.stand.filled()

    def check_filled(self, address):
        if not self.has_filled(address):
            raise NoPart(address)

    def names(self, address):
        self.check_filled(address)
        return self.stand.names(address)

    def means(self, address, name):
        for one, value in self.names(address):
            if one == name:
                return value
        raise NoName(name)

    def touched(self, address):
        self.check_filled(address)
        return self.stand.touched(address)

    def logs(self):
        return [(address, list(log)) for address, log in self.drawn]

    def copied(self):
        other = Shelf(self.house)
        # What stands, and each log, is never changed but put in another one's place, so both may hold them.
        other.stand = self.stand
        other.drawn = list(self.drawn)
        return other
