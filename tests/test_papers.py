"""Promise [6], toldpieces.papers, and [2] and [3] as far as they speak of it."""

import copy
import itertools
import unittest

from tests.odd_things import plain_things, spoiled, with_part
from tests.sample_rows import (
    SOME_PRIMES, all_made, all_rows, dice_of, is_tuple_of_rests, product_of, rooms_for_tests, sum_of, thrown_row,
)
from toldpieces.papers import makes, makes_hold, parted, parted_hold

ROOMS = list(rooms_for_tests())
SMALL_ROOMS = [room for room in ROOMS if room[1] <= 7 and len(room[3]) <= 12]


def are_factors(p, n, rows, row, thing):
    return is_tuple_of_rests(p, len(rows), thing) and sum_of(p, n, rows, thing) == row


def is_parting(p, n, rows, row, thing):
    if type(thing) is not tuple or len(thing) != 2 or not all(is_tuple_of_rests(p, n, one) for one in thing):
        return False
    one, other = thing
    alike = all(product_of(p, each, one) == product_of(p, each, other) for each in rows)
    return alike and product_of(p, row, one) != product_of(p, row, other)


def asked_rows(p, n, rows, seed):
    """Rows to ask about: made ones, such with one rest otherwise, any, noughts."""
    dice = dice_of(seed, p, n, len(rows))
    made = sum_of(p, n, rows, thrown_row(dice, p, len(rows)))
    yield made
    yield with_part(made, dice.randrange(n), dice.randrange(p))
    yield with_part(made, n - 1, (made[n - 1] + 1) % p)
    yield thrown_row(dice, p, n)
    yield (0,) * n
    yield from rows[:1]


class PapersTest(unittest.TestCase):
    def check(self, p, n, rows, row):
        """Whether the rows make the row, by papers that are looked over here and let by by their judges."""
        factors = makes(p, n, rows, row)
        pair = parted(p, n, rows, row)
        self.assertNotEqual(factors is None, pair is None, (p, n, rows, row))
        if pair is None:
            self.assertTrue(are_factors(p, n, rows, row, factors), (p, n, rows, row, factors))
        else:
            self.assertTrue(is_parting(p, n, rows, row, pair), (p, n, rows, row, pair))
        self.assertIs(makes_hold(p, n, rows, row, factors), pair is None)
        self.assertIs(parted_hold(p, n, rows, row, pair), pair is not None)
        return pair is None


class MakesAndPartedTest(PapersTest):
    def test_just_one_is_told_and_it_is_right(self):
        told = set()
        for p, n, form, rows in SMALL_ROOMS:
            for row in asked_rows(p, n, rows, "asked"):
                told.add(self.check(p, n, rows, row))
        self.assertEqual(told, {True, False})

    def test_many_rests_and_many_rows(self):
        for p, n, form, rows in ROOMS[-11:]:
            made, otherwise, *_ = asked_rows(p, n, rows, "great")
            self.assertIs(self.check(p, n, rows, made), True)
            self.check(p, n, rows, otherwise)

    def test_made_rows_are_made(self):
        for p, n, form, rows in SMALL_ROOMS:
            for row in rows[:3] + form[:2]:
                self.assertIs(self.check(p, n, rows, row), True)

    def test_no_rows(self):
        for p in SOME_PRIMES:
            for n in (1, 2, 120):
                self.assertEqual(makes(p, n, (), (0,) * n), ())
                self.assertIs(self.check(p, n, (), (0,) * n), True)
                for at in {0, n - 1}:
                    self.assertIs(self.check(p, n, (), with_part((0,) * n, at, p - 1)), False)

    def test_noughts_and_rows_twice(self):
        for p in SOME_PRIMES:
            for rows in (((0, 0, 0),), ((0, 0, 0),) * 3, ((0, 0, 0), (1, 2, 3), (1, 2, 3), (2, 4, 6))):
                self.assertIs(self.check(p, 3, rows, (0, 0, 0)), True)
                self.assertIs(self.check(p, 3, rows, (5, 10, 3)), False)
                self.assertIs(self.check(p, 3, rows, (2, 4, 6)), len(rows) == 4)

    def test_all_rows_of_few_rests_gone_through(self):
        for p, n in ((11, 1), (13, 1), (11, 2), (13, 2), (11, 3)):
            for many in range(3):
                dice = dice_of(p, n, many)
                rows = tuple(thrown_row(dice, p, n) for _ in range(many))
                made = all_made(p, n, rows)
                for row in all_rows(p, n):
                    self.assertIs(self.check(p, n, rows, row), row in made)

    def test_kinds_and_examples(self):
        self.assertEqual(makes(11, 2, ((1, 0), (1, 1)), (5, 3)), (2, 3))
        self.assertEqual(makes(11, 2, ((2, 4),), (1, 2)), (6,))
        self.assertIsNone(makes(11, 2, ((2, 4),), (1, 3)))
        self.assertIsNone(parted(11, 2, ((2, 4),), (1, 2)))
        pair = parted(11, 2, ((2, 4),), (1, 3))
        self.assertEqual((type(pair), len(pair), [type(row) for row in pair]), (tuple, 2, [tuple, tuple]))
        self.assertEqual([type(rest) for row in pair for rest in row], [int] * 4)

    def test_what_is_handed_in_is_unchanged_and_not_kept(self):
        rows, row = [[1, 0], [1, 1]], [5, 3]
        factors = makes(11, 2, rows, row)
        self.assertIs(makes_hold(11, 2, rows, row, factors), True)
        self.assertIsNone(parted(11, 2, rows, row))
        self.assertEqual((rows, row), ([[1, 0], [1, 1]], [5, 3]))
        rows.pop()
        pair = parted(11, 2, rows, row)
        self.assertIs(parted_hold(11, 2, rows, row, pair), True)
        self.assertEqual((rows, row), ([[1, 0]], [5, 3]))
        row[1] = rows[0][1] = 7
        self.assertEqual(factors, (2, 3))
        self.assertTrue(is_parting(11, 2, ((1, 0),), (5, 3), pair))

    def test_the_same_question_gets_the_same_answer(self):
        for p, n, form, rows in SMALL_ROOMS:
            for row in asked_rows(p, n, rows, "again"):
                for ask in (makes, parted):
                    self.assertEqual(ask(p, n, rows, row), ask(p, n, rows, row))

    def test_somewhat_beyond_the_limits_nothing_is_raised(self):
        self.assertIs(self.check(11, 125, ((1,) * 125,), (4,) * 125), True)
        self.assertIs(self.check(11, 125, ((1,) * 125,), (4,) * 124 + (5,)), False)
        self.assertIs(self.check(11, 2, ((1, 2),) * 310, (3, 6)), True)
        self.assertIs(self.check(11, 2, ((1, 2),) * 310, (3, 7)), False)
        self.assertIs(self.check(11, 0, ((), ()), ()), True)
        for row in ((11, 13), (-1, 5)):
            makes(11, 2, (row,), row)
            parted(11, 2, (row,), row)


class MakesHoldTest(PapersTest):
    def test_all_factors_gone_through(self):
        for rows in ((), ((3, 4),), ((1, 2), (3, 5)), ((1, 2), (2, 4)), ((0, 0), (1, 7)), ((5, 6), (5, 6))):
            for row in ((0, 0), (1, 2), (7, 3), (0, 10)):
                for factors in all_rows(11, len(rows)):
                    right = sum_of(11, 2, rows, factors) == row
                    self.assertIs(makes_hold(11, 2, rows, row, factors), right, (rows, row, factors))

    def test_factors_that_makes_would_not_tell(self):
        for p, n, form, rows in SMALL_ROOMS:
            dice = dice_of("others", p, n, rows)
            for _ in range(3):
                factors = thrown_row(dice, p, len(rows))
                self.assertIs(makes_hold(p, n, rows, sum_of(p, n, rows, factors), factors), True)

    def test_factors_of_another_row(self):
        for p, n, form, rows in ROOMS:
            dice = dice_of("another", p, n, len(rows))
            factors = thrown_row(dice, p, len(rows))
            row = sum_of(p, n, rows, factors)
            for at in {0, n // 2, n - 1}:
                another = with_part(row, at, (row[at] + dice.randrange(1, p)) % p)
                self.assertIs(makes_hold(p, n, rows, another, factors), False)

    def test_one_factor_otherwise(self):
        for p, n, form, rows in SMALL_ROOMS:
            dice = dice_of("factor", p, n, rows)
            factors = thrown_row(dice, p, len(rows))
            row = sum_of(p, n, rows, factors)
            for at, each in enumerate(rows):
                otherwise = with_part(factors, at, (factors[at] + dice.randrange(1, p)) % p)
                self.assertIs(makes_hold(p, n, rows, row, otherwise), not any(each))
                for rest in (factors[at] + p, factors[at] - p, p, -1, 10 ** 29):
                    self.assertIs(makes_hold(p, n, rows, row, with_part(factors, at, rest)), False)

    def test_true_and_false_are_no_rests(self):
        self.assertIs(makes_hold(11, 2, ((1, 2), (3, 4)), (1, 2), (1, 0)), True)
        for thing in ((True, 0), (1, False), (True, False)):
            self.assertIs(makes_hold(11, 2, ((1, 2), (3, 4)), (1, 2), thing), False)

    def test_other_kinds_and_lengths(self):
        for p, n, form, rows in SMALL_ROOMS[::3]:
            factors = thrown_row(dice_of("kinds", p, n, rows), p, len(rows))
            row = sum_of(p, n, rows, factors)
            self.assertIs(makes_hold(p, n, rows, row, factors), True)
            things = [*spoiled(factors), factors + (0,), factors + factors, (0,) + factors, (factors, factors)]
            for thing in things:
                self.assertIs(makes_hold(p, n, rows, row, thing), is_tuple_of_rests(p, len(rows), thing), thing)

    def test_whatever_it_is(self):
        for rows in ((), ((0, 0),), ((1, 2), (3, 4))):
            for thing in plain_things():
                before = copy.deepcopy(thing)
                right = are_factors(11, 2, rows, (0, 0), thing)
                self.assertIs(makes_hold(11, 2, rows, (0, 0), thing), right, repr(thing)[:60])
                self.assertEqual(thing, before)


class PartedHoldTest(PapersTest):
    def test_all_pairs_gone_through(self):
        for rows, row in (((), (0, 3)), (((3, 4),), (1, 0)), (((3, 4),), (6, 8)), (((0, 0),), (1, 10)),
                          (((1, 2), (2, 4)), (1, 3)), (((1, 2), (3, 5)), (1, 3))):
            for one, other in itertools.product(all_rows(11, 2), repeat=2):
                right = is_parting(11, 2, rows, row, (one, other))
                self.assertIs(parted_hold(11, 2, rows, row, (one, other)), right, (rows, row, one, other))

    def test_pairs_that_parted_would_not_tell(self):
        told = 0
        for p, n, form, rows in ROOMS:
            dice = dice_of("others", p, n, len(rows))
            row = thrown_row(dice, p, n)
            pair = parted(p, n, rows, row)
            if pair is None:
                continue
            told += 1
            base = thrown_row(dice, p, n)
            one, other = [sum_of(p, n, (base, each), (1, dice.randrange(1, p))) for each in pair]
            for thing in ((one, other), (other, one), (pair[1], pair[0])):
                self.assertTrue(is_parting(p, n, rows, row, thing))
                self.assertIs(parted_hold(p, n, rows, row, thing), True)
        self.assertGreater(told, 100)

    def test_pairs_spoiled(self):
        for p, n, form, rows in SMALL_ROOMS[::2]:
            dice = dice_of("spoiled", p, n, rows)
            row = thrown_row(dice, p, n)
            pair = parted(p, n, rows, row)
            if pair is None:
                continue
            for at, which in itertools.product(range(n), range(2)):
                for rest in (p, -1, pair[which][at] + p, pair[which][at] - p, 10 ** 29, True, False):
                    thing = with_part(pair, which, with_part(pair[which], at, rest))
                    self.assertIs(parted_hold(p, n, rows, row, thing), False)
                rest = (pair[which][at] + dice.randrange(1, p)) % p
                thing = with_part(pair, which, with_part(pair[which], at, rest))
                self.assertIs(parted_hold(p, n, rows, row, thing), is_parting(p, n, rows, row, thing))

    def test_one_of_many_rows_tells_them_apart(self):
        # Just the row at that place comes to something else at the pair.
        n = 6
        rows = tuple((0,) * at + (1,) + (0,) * (n - at - 1) for at in range(n - 1))
        row = (0,) * (n - 1) + (1,)
        self.assertIs(parted_hold(11, n, rows, row, ((0,) * n, row)), True)
        for at in range(n - 1):
            self.assertIs(parted_hold(11, n, rows, row, ((0,) * n, with_part(row, at, 4))), False)

    def test_one_tuple_twice_is_no_such_pair(self):
        for p, n, form, rows in SMALL_ROOMS:
            one = thrown_row(dice_of("twice", p, n, rows), p, n)
            self.assertIs(parted_hold(p, n, rows, one, (one, one)), False)

    def test_true_and_false_are_no_rests(self):
        self.assertIs(parted_hold(11, 2, ((1, 0),), (0, 1), ((0, 0), (0, 1))), True)
        for thing in (((0, 0), (0, True)), ((0, False), (0, 1)), ((False, 0), (False, 1))):
            self.assertIs(parted_hold(11, 2, ((1, 0),), (0, 1), thing), False)

    def test_other_kinds_and_lengths(self):
        rows, row = ((1, 0, 3), (0, 1, 5)), (0, 0, 2)
        pair = parted(11, 3, rows, row)
        things = list(spoiled(pair)) + [pair + ((0, 0, 0),), pair[0] + pair[1], (pair, pair), {"one": pair[0]}]
        for which in range(2):
            things += [with_part(pair, which, one) for one in spoiled(pair[which])]
            things += [with_part(pair, which, pair[which] + (0,)), with_part(pair, which, pair[which][:-1])]
        things += [tuple(one + (0,) for one in pair), tuple(one[:-1] for one in pair)]
        for thing in things:
            self.assertIs(parted_hold(11, 3, rows, row, thing), False, thing)

    def test_whatever_it_is(self):
        for thing in plain_things():
            before = copy.deepcopy(thing)
            for odd in (thing, (thing, thing), ((0, 0), thing), (thing, (0, 0))):
                self.assertIs(parted_hold(11, 2, ((1, 0),), (0, 1), odd), False, repr(thing)[:60])
            self.assertEqual(thing, before)


if __name__ == "__main__":
    unittest.main()
