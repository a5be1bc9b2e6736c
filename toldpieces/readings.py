"""The table that is read though some lie, and two that can be read where too many may ([13])."""

from toldpieces.groups import groups_of
from toldpieces.houses import alike_on, keeps_of, read_back
from toldpieces.rests import are_rows
from toldpieces.tables import is_table


def read_right(shape, pairs):
    """(table, xs): the table of which half of the houses beyond k at most keep other rows, and these; or None."""
    k = shape[1]
    most = (len(pairs) - k) // 2
    # Where there is such a table k houses at least keep its rows, and it is the only one that these keep.
    for group in groups_of(pairs, k):
        table = read_back(shape, group)
        if table is not None:
            xs = keeping_others(shape, table, pairs)
            if len(xs) <= most:
                return table, xs
    return None


def keeping_others(shape, table, pairs):
    """The houses x of those pairs (x, row) that keep another row of the table, in the pairs' order."""
    return tuple([x for x, row in pairs if keeps_of(shape, table, x) != tuple(row)])


def two_read(shape, xs, b):
    """("two", one, other, rows): two tables, and a row for each x such that each misfits at b of the xs at most."""
    p, k, d, dice_rows = shape
    one = ((0,) * d,) * d
    # Of this one the first k - 1 houses keep noughts, too.
    other = alike_on(shape, xs[:k - 1])
    # Of the 2 b others the first b get what they keep of the one, the last b what they keep of the other.
    rows = [keeps_of(shape, one, x) for x in xs[:len(xs) - b]] + [keeps_of(shape, other, x) for x in xs[len(xs) - b:]]
    return "two", one, other, tuple(rows)


def two_read_hold(shape, xs, b, thing):
    """Whether it is ("two", one, other, rows) as two_read tells such, whatever it is."""
    if not isinstance(thing, tuple) or len(thing) != 4:
        return False
    word, one, other, rows = thing
    if word != "two" or not is_table(shape, one) or not is_table(shape, other) or one == other:
        return False
    if not are_rows(shape[0], shape[2], len(xs), rows):
        return False
    pairs = list(zip(xs, rows))
    return len(keeping_others(shape, one, pairs)) <= b and len(keeping_others(shape, other, pairs)) <= b
