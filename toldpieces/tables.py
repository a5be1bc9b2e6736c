"""Tables: a thing's secrets and dice at their places, alike across ([8])."""

from toldpieces.rests import are_rows
from toldpieces.shapes import places_of


def dice_places(shape):
    """The shape's places that are the dice's, rising."""
    return tuple([place for place in places_of(shape) if place[0] < shape[3]])


def secret_places(shape):
    """The shape's places that are the secrets', rising."""
    return tuple([place for place in places_of(shape) if place[0] >= shape[3]])


def table_of(shape, secrets, dice):
    """The table of the thing (secrets, dice)."""
    d = shape[2]
    rows = [[0] * d for row in range(d)]
    for places, rests in ((secret_places(shape), secrets), (dice_places(shape), dice)):
        for (row, column), rest in zip(places, rests):
            rows[row][column] = rows[column][row] = rest
    return tuple([tuple(row) for row in rows])


def thing_of(shape, table):
    """The thing (secrets, dice) whose table it is."""
    return rests_at(table, secret_places(shape)), rests_at(table, dice_places(shape))


def rests_at(table, places):
    """The table's rests at these places."""
    return tuple([table[row][column] for row, column in places])


def is_table(shape, thing):
    """Whether it is the table of some thing of the shape, whatever it is."""
    p, k, d, dice_rows = shape
    if not are_rows(p, d, d, thing):
        return False
    if any([thing[row][column] for row in range(k, d) for column in range(k, d)]):
        return False
    return all([thing[row][column] == thing[column][row] for row in range(d) for column in range(row)])
