"""Layings of hidden numbers over houses, whoever made them, and how much they can hold ([14], [15])."""

from toldpieces.groups import groups_of
from toldpieces.powers import powers_of
from toldpieces.rests import are_rows, is_number, is_prime, with_multiple
from toldpieces.rooms import room_of, within
from toldpieces.shapes import MOST_COLUMNS, places_many
from toldpieces.sums import kept_sums

MOST_HIDDEN = 24
FEWEST_HOUSES = 2
MOST_HOUSES = 8


def is_laying(thing):
    """Whether it is a laying (p, many, keeps, tells), whatever it is."""
    if not isinstance(thing, tuple) or len(thing) != 4:
        return False
    p, many, keeps, tells = thing
    if not is_prime(p) or not is_number(many) or not 1 <= many <= MOST_HIDDEN:
        return False
    return are_keeps(p, many, keeps) and are_tells(p, many, len(keeps), tells)


def are_keeps(p, many, thing):
    """Whether it is a tuple of houses, each a tuple of as many rows as the others, fewer than houses."""
    if not isinstance(thing, tuple) or not FEWEST_HOUSES <= len(thing) <= MOST_HOUSES:
        return False
    if not isinstance(thing[0], tuple) or not 1 <= len(thing[0]) <= min(MOST_COLUMNS, len(thing) - 1):
        return False
    return all([are_rows(p, many, len(thing[0]), house) for house in thing])


def are_tells(p, many, houses, thing):
    """Whether it is a tuple with, for each house, a tuple of a row from each house."""
    if not isinstance(thing, tuple) or len(thing) != houses:
        return False
    return all([are_rows(p, many, houses, told) for told in thing])


def laying_fault(laying, k):
    """The first fault of the laying, None where it is right."""
    return told_fault(laying) or rebuild_fault(laying) or read_fault(laying, k)


def told_fault(laying):
    """The first ("told", f, h) of which what h tells for f isn't in the room of what h keeps, or None."""
    p, many, keeps, tells = laying
    rooms = [room_of(p, many, house) for house in keeps]
    for f, told in enumerate(tells):
        for h, row in enumerate(told):
            if f != h and not within(p, rooms[h], row):
                return "told", f, h
    return None


def rebuild_fault(laying):
    """The first ("rebuild", f, helpers) of which what the helpers tell for f doesn't make all that f keeps, or None."""
    p, many, keeps, tells = laying
    for f, house in enumerate(keeps):
        others = [h for h in range(len(keeps)) if h != f]
        for helpers in groups_of(others, len(house)):
            room = room_of(p, many, [tells[f][h] for h in helpers])
            if not all([within(p, room, row) for row in house]):
                return "rebuild", f, helpers
    return None


def read_fault(laying, k):
    """The first ("read", houses) of which what the k houses keep doesn't make all rows, or None."""
    p, many, keeps, tells = laying
    for houses in groups_of(list(range(len(keeps))), k):
        if size_kept(p, many, [keeps[h] for h in houses]) < many:
            return "read", houses
    return None


def size_kept(p, many, houses):
    """The size of the room of what houses keep, of each of which the rows are handed in."""
    return len(room_of(p, many, [row for house in houses for row in house]))


def bound_of(k, d):
    """How many hidden numbers a right laying with d numbers at each house has at most."""
    return places_many(k, d)


def chain_of(laying, k):
    """By how much the room of what the houses keep grows with each of the first k."""
    p, many, keeps, tells = laying
    sizes = [size_kept(p, many, keeps[:first]) for first in range(k + 1)]
    return tuple([size - before for before, size in zip(sizes, sizes[1:])])


def own_laying(shape, xs):
    """The laying of the houses xs: the hidden numbers are the table's rests at the shape's places."""
    p, k, d, dice_rows = shape
    many = bound_of(k, d)
    keeps = [kept_sums(shape, x) for x in xs]
    tells = [[sums_told(p, many, rows, y) if x != y else (0,) * many for x, rows in zip(xs, keeps)] for y in xs]
    return p, many, tuple(keeps), tuple([tuple(told) for told in tells])


def sums_told(p, many, rows, y):
    """What a house that keeps these rows of sums tells for house y, as such a row."""
    told = [0] * many
    for row, power in zip(rows, powers_of(p, len(rows), y)):
        told = with_multiple(p, told, row, power)
    return tuple(told)
