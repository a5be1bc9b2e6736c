"""Powers of a rest, what a row is worth at a rest, and the row through points ([5])."""

from toldpieces.rests import contrary, with_multiple


def powers_of(p, many, x):
    """The row of many rests 1, x, x times x and so on."""
    powers = []
    power = 1
    for at in range(many):
        powers.append(power)
        power = power * x % p
    return tuple(powers)


def worth_at(p, row, x):
    """The sum of each rest of the row times the power of x at its place."""
    worth = 0
    for rest in reversed(row):
        worth = (worth * x + rest) % p
    return worth


def through(p, pairs):
    """The one row of as many rests as there are pairs (x, rest) that is worth at each x its rest."""
    row = []
    # A multiple of vanishing can be added to the row without spoiling any earlier pair.
    vanishing = [1]
    for x, rest in pairs:
        missing = rest - worth_at(p, row, x)
        factor = missing * contrary(p, worth_at(p, vanishing, x))
        row = with_multiple(p, row + [0], vanishing, factor)
        vanishing = with_nought_at(p, vanishing, x)
    return tuple(row)


def with_nought_at(p, row, x):
    """The list of one rest more that is worth, at each y, y less x times what the row, a list, is worth there."""
    return with_multiple(p, [0] + row, row + [0], -x)
