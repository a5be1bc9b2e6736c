"""What houses keep, written as sums of the numbers at the shape's places ([15], [16], [18])."""

from toldpieces.powers import powers_of
from toldpieces.rooms import form_of
from toldpieces.shapes import places_of


def kept_sums(shape, x):
    """The rests that house x keeps, column by column, each as a row with a rest for each of the shape's places."""
    p, k, d, dice_rows = shape
    powers = powers_of(p, d, x)
    places = places_of(shape)
    return tuple([tuple([times_kept(powers, column, place) for place in places]) for column in range(d)])


def times_kept(powers, column, place):
    """How many times the number at the place is in what the house of these powers keeps at the column."""
    # The table is alike across: the number stands at the place and at that across, each in a column of its own.
    low, high = place
    if column == high:
        return powers[low]
    return powers[high] if column == low else 0


def size_alone(p, n, rows, places):
    """The size of the room of all rows that the rows, of n rests each, make and that have 0 but at these places."""
    others = [at for at in range(n) if at not in places]
    # What the rows make at the other places shrinks the room by just those that come to noughts there.
    elsewhere = [tuple([row[at] for at in others]) for row in rows]
    return len(form_of(p, n, rows)) - len(form_of(p, len(others), elsewhere))
