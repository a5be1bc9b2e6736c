"""The row that fits though some lie, and two that fit where too many may ([12], [13])."""

from toldpieces.groups import groups_of
from toldpieces.powers import through, with_nought_at, worth_at
from toldpieces.rests import is_row


def fitting(p, many, pairs):
    """The row of many rests that misfits at half of the pairs beyond many at most, and where it does; or None."""
    most = (len(pairs) - many) // 2
    # Where there is such a row it fits many pairs at least, and it is the only one through these.
    for group in groups_of(pairs, many):
        row = through(p, group)
        xs = misfits(p, row, pairs)
        if len(xs) <= most:
            return row, xs
    return None


def misfits(p, row, pairs):
    """The x of those pairs (x, rest) of which the row isn't worth the rest at x, in the pairs' order."""
    return tuple([x for x, rest in pairs if worth_at(p, row, x) != rest % p])


def rebuilt_right(shape, pairs):
    """The row that a house kept, of what others tell for it, and who of them lied; None where too many did."""
    p, k, d, dice_rows = shape
    return fitting(p, d, pairs)


def fitting_many(xs, b):
    """The least number of rests for which two unlike rows can each misfit at b of the xs at most."""
    return len(xs) - 2 * b + 1


def two_fitting(p, xs, b):
    """("two", one, other, rests): two rows, and a rest for each x such that each misfits at b of the xs at most."""
    many = fitting_many(xs, b)
    one = (0,) * many
    # A row of many rests, not noughts, is worth 0 at many - 1 of the xs at most: so this one isn't at the 2 b others.
    other = [1]
    for x in xs[:many - 1]:
        other = with_nought_at(p, other, x)
    # The first b of those 2 b get what the one is worth there, the last b what the other is.
    rests = [worth_at(p, one, x) for x in xs[:len(xs) - b]] + [worth_at(p, other, x) for x in xs[len(xs) - b:]]
    return "two", one, tuple(other), tuple(rests)


def two_fitting_hold(p, xs, b, thing):
    """Whether it is ("two", one, other, rests) as two_fitting tells such, whatever it is."""
    if not isinstance(thing, tuple) or len(thing) != 4:
        return False
    word, one, other, rests = thing
    many = fitting_many(xs, b)
    if word != "two" or not is_row(p, many, one) or not is_row(p, many, other) or not is_row(p, len(xs), rests):
        return False
    if one == other:
        return False
    pairs = list(zip(xs, rests))
    return len(misfits(p, one, pairs)) <= b and len(misfits(p, other, pairs)) <= b
