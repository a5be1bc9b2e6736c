"""Papers on whether rows make a row: factors that make it, or hidden numbers that part it from them ([6])."""

from toldpieces.rests import is_row, with_multiple
from toldpieces.rooms import first_place, form_of, leftover


def makes(p, n, rows, row):
    """Factors, one for each of the rows, that make the row; None where there are none."""
    many = len(rows)
    # Of each place one equation: what the rows have there, times the factors asked for, comes to what the row has.
    equations = [[each[at] for each in rows] + [row[at]] for at in range(n)]
    form = form_of(p, many + 1, equations)
    if many in form:
        # All factors are gone from this equation, and noughts don't come to 1.
        return None
    factors = [0] * many
    for place in form:
        factors[place] = form[place][many]
    return tuple(factors)


def makes_hold(p, n, rows, row, thing):
    """Whether it is a tuple of factors, one for each of the rows, that make the row, whatever it is."""
    if not is_row(p, len(rows), thing):
        return False
    made = [0] * n
    for each, factor in zip(rows, thing):
        made = with_multiple(p, made, each, factor)
    return made == [rest % p for rest in row]


def parted(p, n, rows, row):
    """A pair of rows of hidden numbers at which each of the rows comes to the same and the row doesn't, or None."""
    form = form_of(p, n, rows)
    left = leftover(p, form, row)
    apart = first_place(left)
    if apart is None:
        return None
    # Here each row of the form comes to 0, as at noughts, and the row to what is left of it at the place apart.
    numbers = [0] * n
    numbers[apart] = 1
    for place in form:
        numbers[place] = -form[place][apart] % p
    return (0,) * n, tuple(numbers)


def parted_hold(p, n, rows, row, thing):
    """Whether it is a pair of rows at which each of the rows comes to the same and the row doesn't, whatever it is."""
    if not isinstance(thing, tuple) or len(thing) != 2:
        return False
    one, other = thing
    if not is_row(p, n, one) or not is_row(p, n, other):
        return False
    if any([comes_to(p, each, one) != comes_to(p, each, other) for each in rows]):
        return False
    return comes_to(p, row, one) != comes_to(p, row, other)


def comes_to(p, row, numbers):
    """The row's rests and the hidden numbers, place by place multiplied and summed."""
    return sum([rest * number for rest, number in zip(row, numbers)]) % p
