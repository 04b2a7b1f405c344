"""Whole numbers, names and addresses."""

# Written out, as Python's own islower takes letters of other scripts too.
LETTERS = "abcdefghijklmnopqrstuvwxyz"
MOST_LETTERS = 8
MOST_NAMES = 3


def is_whole(thing):
    return isinstance(thing, int) and not isinstance(thing, bool)


def is_name(thing):
    if not isinstance(thing, str):
        return False
    if len(thing) < 1 or len(thing) > MOST_LETTERS:
        return False
    return all([sign in LETTERS for sign in thing])


def are_names(text, most):
    names = text.split(".")
    return len(names) <= most and all([is_name(name) for name in names])


def is_address(thing):
    return isinstance(thing, str) and are_names(thing, MOST_NAMES)


def prefixes(address):
    names = address.split(".")
    return [".".join(names[:many]) for many in range(1, len(names) + 1)]


def parent_of(address):
    return address.rpartition(".")[0]


def last_of(address):
    return address.rpartition(".")[2]
