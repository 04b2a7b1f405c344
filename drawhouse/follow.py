"""Logs of draws: whether they are right, and what is shown at each moment of them."""

from drawhouse.shelf import Shelf
from drawhouse.stepper import Moment, Stepper
from drawhouse.words import is_address, is_whole


def are_same(things, told):
    return len(things) == len(told) and all([is_same(thing, one) for thing, one in zip(things, told)])


def is_same(thing, told):
    """Whether a thing, of whatever kind, is what is told, kind by kind: to Python True is 1, and 1.0 is."""
    if isinstance(told, list):
        return isinstance(thing, list) and are_same(thing, told)
    if isinstance(told, tuple):
        return isinstance(thing, tuple) and are_same(thing, told)
    if isinstance(told, str):
        return isinstance(thing, str) and thing == told
    return is_whole(thing) and thing == told


def is_refused(log):
    return log[-1][0] == "fault"


def is_next(shelf, thing):
    if not isinstance(thing, tuple) or len(thing) != 2:
        return False
    return is_address(thing[0]) and is_same(thing[1], shelf.would_tell(thing[0]))


def follows(house, logs):
    if not isinstance(logs, list):
        return False
    shelf = Shelf(house)
    for at, thing in enumerate(logs):
        if not is_next(shelf, thing):
            return False
        if is_refused(thing[1]):
            return at == len(logs) - 1
        shelf.draw(thing[0])
    return True


def shown_behind(shelf, address, many):
    stepper = Stepper(shelf, address)
    for one in range(many):
        stepper.next_event()
    return stepper.shows()


def at_moment(house, logs, many):
    shelf = Shelf(house)
    left = many
    for address, log in logs:
        if left < len(log):
            return shown_behind(shelf, address, left)
        left -= len(log)
        # Behind a fault event all is as it was ahead of that draw.
        if not is_refused(log):
            shelf.draw(address)
    return Moment(shelf).shows()
