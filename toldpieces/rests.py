"""Numbers, primes, and the rests and rows by a prime ([3], [4])."""

PRIMES = (
    11, 13, 17, 19, 23, 29, 31, 37, 41, 43, 47, 53, 59, 61, 67, 71, 73, 79, 83, 89, 97,
    101, 103, 107, 109, 113, 127, 131, 137, 139, 149, 151, 157, 163, 167, 173, 179, 181,
    191, 193, 197, 199, 211,
)


def is_number(thing):
    """Whether it is a whole number; True and False are none."""
    return isinstance(thing, int) and not isinstance(thing, bool)


def is_prime(thing):
    """Whether it is one of PRIMES, whatever it is."""
    return is_number(thing) and thing in PRIMES


def is_rest(p, thing):
    """Whether it is a rest by p, whatever it is."""
    return is_number(thing) and 0 <= thing < p


def is_row(p, many, thing):
    """Whether it is a row of so many rests by p, whatever it is."""
    if not isinstance(thing, tuple) or len(thing) != many:
        return False
    return all([is_rest(p, rest) for rest in thing])


def are_rows(p, n, many, thing):
    """Whether it is a tuple of so many rows of n rests by p, whatever it is."""
    return isinstance(thing, tuple) and len(thing) == many and all([is_row(p, n, row) for row in thing])


def with_multiple(p, row, other, factor):
    """The list of the row's rests with factor times those of the other, which is as long, added place by place."""
    return [(rest + factor * more) % p for rest, more in zip(row, other)]


def contrary(p, a):
    """The rest b for which a times b is 1 by p."""
    # By p, high is a times high_factor and low is a times low_factor, at each step:
    # so high_factor is asked for once high is 1, all that p and a can both be divided by.
    high, low = p, a % p
    high_factor, low_factor = 0, 1
    while low:
        times = high // low
        high, low = low, high - times * low
        high_factor, low_factor = low_factor, high_factor - times * low_factor
    return high_factor % p
