"""Groups: rising tuples of rests and of names, and all groups of so many of some things ([3])."""

from toldpieces.rests import is_rest

LETTERS = "abcdefghijklmnopqrstuvwxyz"
LONGEST_NAME = 8


def groups_of(things, many):
    """All tuples of so many of the things, in the things' order: where these rise, the tuples rise, too."""
    if many < 1:
        return [()]
    groups = []
    for at in range(len(things) - many + 1):
        groups.extend([(things[at],) + others for others in groups_of(things[at + 1:], many - 1)])
    return groups


def is_rising(things):
    """Whether each of the things, which Python can order, stands above the one ahead."""
    return all([one < other for one, other in zip(things, things[1:])])


def is_rest_group(p, thing):
    """Whether it is a rising tuple of rests by p, whatever it is."""
    return isinstance(thing, tuple) and all([is_rest(p, x) for x in thing]) and is_rising(thing)


def is_name(thing):
    """Whether it is a text of 1 to 8 small letters, whatever it is."""
    if not isinstance(thing, str) or not 1 <= len(thing) <= LONGEST_NAME:
        return False
    return all([letter in LETTERS for letter in thing])


def is_name_group(thing):
    """Whether it is a rising tuple of names, whatever it is."""
    return isinstance(thing, tuple) and all([is_name(name) for name in thing]) and is_rising(thing)
