"""Rows, rooms whose plain form is known beforehand, and what the tests reckon on their own."""

import itertools
import random

from toldpieces.rests import PRIMES

SOME_PRIMES = (11, 13, 101, 211)


def dice_of(*seed):
    """Dice that fall alike each time they are thrown for the same test."""
    return random.Random(repr(seed))


def is_tuple_of_rests(p, many, thing):
    if type(thing) is not tuple or len(thing) != many:
        return False
    return all(type(rest) is int and rest in range(p) for rest in thing)


def thrown_row(dice, p, n):
    return tuple(dice.randrange(p) for _ in range(n))


def sum_of(p, n, rows, factors):
    """The rows, each so many times, summed."""
    rows = list(zip(rows, factors, strict=True))
    return tuple(sum(row[at] * factor for row, factor in rows) % p for at in range(n))


def product_of(p, row, numbers):
    return sum(rest * number for rest, number in zip(row, numbers, strict=True)) % p


def all_rows(p, n):
    return itertools.product(range(p), repeat=n)


def all_made(p, n, rows):
    """The set of all rows that the rows make, each tuple of factors gone through."""
    return {sum_of(p, n, rows, factors) for factors in all_rows(p, len(rows))}


def known_form(dice, p, n, size):
    """The plain form of some room of that size."""
    places = sorted(dice.sample(range(n), size))
    form = []
    for place in places:
        row = [0] * n
        row[place] = 1
        for at in range(place + 1, n):
            if at not in places:
                row[at] = dice.choice((0, dice.randrange(p)))
        form.append(tuple(row))
    return tuple(form)


def rows_making(dice, p, n, form, many):
    """So many rows, at least as many as the form has, that make what the form makes; some twice, some noughts."""
    rows = []
    for at in range(len(form)):
        # Each is made of a row of the form that none ahead of it has, and of any that those have.
        factors = [dice.randrange(p) for _ in range(at)] + [dice.randrange(1, p)]
        rows.append(sum_of(p, n, form[:at + 1], factors))
    while len(rows) < many:
        kind = dice.randrange(4)
        if kind == 0 and rows:
            rows.append(dice.choice(rows))
        elif kind == 1:
            rows.append((0,) * n)
        else:
            some = dice.sample(rows, min(len(rows), 3))
            rows.append(sum_of(p, n, some, [dice.randrange(p) for _ in some]))
    dice.shuffle(rows)
    return tuple(rows)


def rooms_for_tests():
    """(p, n, form, rows), few and many rests, up to 300 rows."""
    for p in SOME_PRIMES:
        for n in (1, 2, 3, 4, 7, 12):
            for size in range(n + 1):
                for more in (0, 1, 8):
                    dice = dice_of(p, n, size, more)
                    form = known_form(dice, p, n, size)
                    yield p, n, form, rows_making(dice, p, n, form, size + more)
    for p, n, size, many in ((11, 40, 1, 300), (13, 60, 20, 70), (211, 90, 30, 80), (17, 119, 25, 60),
                             (101, 120, 20, 300), (211, 120, 60, 100), (23, 120, 119, 119), (211, 120, 120, 140),
                             (PRIMES[1], 1, 1, 300), (53, 120, 1, 2), (PRIMES[-2], 5, 5, 300)):
        dice = dice_of(p, n, size, many)
        form = known_form(dice, p, n, size)
        yield p, n, form, rows_making(dice, p, n, form, many)
