"""Shapes, their places, and the things of a shape ([7], [8])."""

from toldpieces.rests import is_number, is_prime, is_row

MOST_COLUMNS = 5


def is_shape(thing):
    """Whether it is a shape (p, k, d, l), whatever it is."""
    if not isinstance(thing, tuple) or len(thing) != 4:
        return False
    if not all([is_number(part) for part in thing]):
        return False
    p, k, d, dice_rows = thing
    return is_prime(p) and 1 <= d <= MOST_COLUMNS and 1 <= k <= d and 0 <= dice_rows < k


def places_of(shape):
    """All the shape's places (row, column), rising."""
    p, k, d, dice_rows = shape
    return tuple([(row, column) for row in range(k) for column in range(row, d)])


def places_many(rows, d):
    """How many places the first so many rows have: d in row 0, and one fewer in each row than in the one ahead."""
    return rows * d - rows * (rows - 1) // 2


def secrets_many(shape):
    """How many of the shape's places are the secrets'."""
    p, k, d, dice_rows = shape
    return places_many(k, d) - places_many(dice_rows, d)


def dice_many(shape):
    """How many of the shape's places are the dice's."""
    p, k, d, dice_rows = shape
    return places_many(dice_rows, d)


def is_thing(shape, thing):
    """Whether it is a thing (secrets, dice) of the shape, whatever it is."""
    if not isinstance(thing, tuple) or len(thing) != 2:
        return False
    p = shape[0]
    secrets, dice = thing
    return is_row(p, secrets_many(shape), secrets) and is_row(p, dice_many(shape), dice)
