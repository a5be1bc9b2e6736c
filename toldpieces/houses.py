"""Houses: what each keeps of a table and tells for others, and what can be had back of that ([9], [10], [11])."""

from toldpieces.powers import powers_of, through, with_nought_at, worth_at
from toldpieces.rests import with_multiple
from toldpieces.tables import is_table


def keeps_of(shape, table, x):
    """The row that house x keeps of the table."""
    p, k, d, dice_rows = shape
    kept = [0] * d
    for row, power in zip(table, powers_of(p, d, x)):
        kept = with_multiple(p, kept, row, power)
    return tuple(kept)


def tells_for(shape, row, y):
    """The one rest that a house that keeps the row tells for house y."""
    return worth_at(shape[0], row, y)


def rebuilt(shape, pairs):
    """The row of d rests that is worth at each x of the d pairs (x, rest) the rest beside it."""
    return through(shape[0], pairs)


def read_back(shape, pairs):
    """The one table of which the k houses x of the pairs (x, row) keep these rows; None where there is none."""
    p, k, d, dice_rows = shape
    if len(pairs) != k:
        return None
    columns = [() for column in range(d)]
    # The last columns have rests in the first k rows alone; by these the lower rests of the first columns are known.
    for column in reversed(range(d)):
        lower = tuple([columns[row][column] for row in range(k, d)]) if column < k else (0,) * (d - k)
        columns[column] = column_through(p, k, column, pairs, lower)
    table = tuple(columns)
    return table if is_table(shape, table) else None


def column_through(p, k, column, pairs, lower):
    """The column of a table that ends in these lower rests, of which each house x keeps the rest its row has there."""
    below = (0,) * k + lower
    upper = through(p, [(x, (row[column] - worth_at(p, below, x)) % p) for x, row in pairs])
    return upper + lower


def alike_on(shape, xs):
    """A table, not all 0, of which the houses xs, at most k - 1, keep noughts, and all others do not."""
    p, k, d, dice_rows = shape
    vanishing = [1]
    for x in xs:
        vanishing = with_nought_at(p, vanishing, x)
    # House x keeps of the products of this row's rests the row itself, times what it is worth at x: 0 at the xs.
    row = (vanishing + [0] * d)[:d]
    return tuple([tuple([one * other % p for other in row]) for one in row])


def alike_holds(shape, xs, thing):
    """Whether it is a table of the shape, not all 0, of which the houses xs keep noughts, whatever it is."""
    if not is_table(shape, thing) or not any([any(row) for row in thing]):
        return False
    return not any([any(keeps_of(shape, thing, x)) for x in xs])
