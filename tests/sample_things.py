"""Shapes, things and groups of houses, and what the tests reckon of them on their own."""

import itertools

from tests.sample_rows import dice_of, is_tuple_of_rests, thrown_row

BOUNDS = [(k, d, l) for d in range(1, 6) for k in range(1, d + 1) for l in range(0, k)]


def shapes_by(*primes):
    return [(p, k, d, l) for p in primes for k, d, l in BOUNDS]


def own_places(shape):
    """(the secrets' places, the dice's), each rising."""
    p, k, d, l = shape
    places = sorted((row, column) for row in range(k) for column in range(d) if column >= row)
    return [place for place in places if place[0] >= l], [place for place in places if place[0] < l]


def own_table(shape, secrets, dice):
    """The table as a tuple of rows, by what stands at each place."""
    p, k, d, l = shape
    secret_places, dice_places = own_places(shape)
    at = dict(zip(secret_places, secrets, strict=True)) | dict(zip(dice_places, dice, strict=True))
    return tuple(tuple(at.get((min(row, column), max(row, column)), 0) for column in range(d)) for row in range(d))


def own_keeps(shape, table, x):
    p, k, d, l = shape
    return tuple(sum(x ** row * table[row][column] for row in range(d)) % p for column in range(d))


def own_tells(shape, row, y):
    return sum(rest * y ** at for at, rest in enumerate(row)) % shape[0]


def own_is_table(shape, thing):
    p, k, d, l = shape
    if type(thing) is not tuple or len(thing) != d or not all(is_tuple_of_rests(p, d, row) for row in thing):
        return False
    secret_places, dice_places = own_places(shape)
    secrets = [thing[row][column] for row, column in secret_places]
    return own_table(shape, secrets, [thing[row][column] for row, column in dice_places]) == thing


def thrown_thing(dice, shape):
    """Some thing (secrets, dice) of the shape."""
    return tuple(thrown_row(dice, shape[0], len(places)) for places in own_places(shape))


def thrown_table(dice, shape):
    return own_table(shape, *thrown_thing(dice, shape))


def noughts_table(shape):
    return ((0,) * shape[2],) * shape[2]


def added(shape, table, other):
    """Two tables, or tuples of rows, added place by place."""
    return tuple(tuple((a + b) % shape[0] for a, b in zip(row, more, strict=True))
                 for row, more in zip(table, other, strict=True))


def some_xs(p, many):
    """Rising tuples of so many rests: with 0, with p - 1, with both, spread."""
    yield tuple(range(many))
    yield tuple(range(p - many, p))
    if many:
        yield tuple(range(many - 1)) + (p - 1,)
    yield tuple(sorted(dice_of("xs", p, many).sample(range(p), many)))


def small_groups(things, most):
    """All groups of at most so many of the things."""
    return [group for many in range(most + 1) for group in itertools.combinations(things, many)]


def own_size(p, rows):
    """How many of the rows are left when none is made by the others."""
    rows = [list(row) for row in rows if any(row)]
    size = 0
    while rows:
        first = rows.pop()
        at = next((at for at, rest in enumerate(first) if rest), None)
        if at is None:
            continue
        size += 1
        back = pow(first[at], -1, p)
        rows = [[(rest - row[at] * back * more) % p for rest, more in zip(row, first)] for row in rows]
    return size


def unit(n, at):
    return tuple(int(place == at) for place in range(n))


def own_size_alone(p, n, rows, places):
    """The size of the room of what the rows make that has 0 but at these places: by the sizes of both rooms and
    of what both together make."""
    units = [unit(n, at) for at in places]
    return own_size(p, rows) + len(units) - own_size(p, list(rows) + units)
