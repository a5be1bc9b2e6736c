"""Promises [12] and [13] (rebuilt_right), and [2] and [3] as far as they speak of toldpieces.liars."""

import copy
import itertools
import unittest

from tests.odd_things import plain_things, spoiled, with_part
from tests.sample_rows import SOME_PRIMES, all_rows, dice_of, is_tuple_of_rests, product_of, thrown_row
from tests.sample_things import small_groups, some_xs
from toldpieces.groups import groups_of
from toldpieces.liars import fitting, rebuilt_right, two_fitting, two_fitting_hold
from toldpieces.rests import PRIMES


def worth(p, row, x):
    return sum(rest * x ** at for at, rest in enumerate(row)) % p


def misfitting(p, row, xs, rests):
    return tuple(x for x, rest in zip(xs, rests, strict=True) if worth(p, row, x) != rest)


def is_two(p, xs, b, thing):
    """Whether it is two rows and rests as told in [12]."""
    if type(thing) is not tuple or len(thing) != 4 or type(thing[0]) is not str or thing[0] != "two":
        return False
    many = len(xs) - (2 * b - 1)
    one, other, rests = thing[1:]
    if not (is_tuple_of_rests(p, many, one) and is_tuple_of_rests(p, many, other)):
        return False
    if not is_tuple_of_rests(p, len(xs), rests) or one == other:
        return False
    return all(len(misfitting(p, row, xs, rests)) <= b for row in (one, other))


class GroupsOfTest(unittest.TestCase):
    def test_all_groups_rising(self):
        for length in range(9):
            things = tuple(range(10, 10 + length))
            for many in range(10):
                self.assertEqual(groups_of(things, many), list(itertools.combinations(things, many)))
                self.assertEqual(groups_of(list(things), many), list(itertools.combinations(things, many)))


class FittingTest(unittest.TestCase):
    def test_all_sets_of_at_most_b_liars(self):
        for p in SOME_PRIMES:
            for many, length in itertools.combinations_with_replacement(range(1, 9), 2):
                for xs in some_xs(p, length):
                    self.check_all_liars(p, many, xs)

    def check_all_liars(self, p, many, xs):
        dice = dice_of(p, many, xs)
        row = thrown_row(dice, p, many)
        for liars in small_groups(xs, (len(xs) - many) // 2):
            pairs = tuple((x, (worth(p, row, x) + (dice.randrange(1, p) if x in liars else 0)) % p) for x in xs)
            told = fitting(p, many, pairs)
            self.assertEqual(told, (row, liars), (p, many, pairs))
            self.assertEqual([type(part) for part in told], [tuple, tuple])

    def test_liars_that_lie_alike(self):
        # All who lie tell the truth of one other row, or just one more than the truth.
        for p in SOME_PRIMES:
            for many in range(1, 7):
                xs = tuple(range(1, 8)) + (p - 1,)
                row, another = (3,) * many, tuple(range(many))
                for liars in small_groups(xs, (8 - many) // 2):
                    for lie in (lambda x: worth(p, another, x), lambda x: (worth(p, row, x) + 1) % p):
                        rests = tuple(lie(x) if x in liars else worth(p, row, x) for x in xs)
                        told = fitting(p, many, tuple(zip(xs, rests)))
                        self.assertEqual(told, (row, misfitting(p, row, xs, rests)))

    def test_rows_of_noughts_and_of_the_greatest_rest(self):
        for p in SOME_PRIMES:
            for many, length in itertools.combinations_with_replacement(range(1, 9), 2):
                for row in ((0,) * many, (p - 1,) * many):
                    xs = tuple(range(length - 1)) + (p - 1,)
                    pairs = tuple((x, worth(p, row, x)) for x in xs)
                    self.assertEqual(fitting(p, many, pairs), (row, ()))

    def test_of_just_many_pairs_the_row_is_there(self):
        for p in PRIMES:
            for many in range(1, 9):
                for xs in some_xs(p, many):
                    rests = thrown_row(dice_of("just", p, xs), p, many)
                    row, none = fitting(p, many, tuple(zip(xs, rests)))
                    self.assertTrue(is_tuple_of_rests(p, many, row))
                    self.assertEqual(misfitting(p, row, xs, rests), ())
                    self.assertEqual(none, ())

    def check_by_all_rows(self, many, worths, xs, rests):
        """What fitting tells, against all rows by 11 gone through; worths tells what each is worth at all x."""
        b = (len(xs) - many) // 2
        fits = []
        for row, at_all in worths.items():
            apart = tuple(x for x, rest in zip(xs, rests) if at_all[x] != rest)
            if len(apart) <= b:
                fits.append((row, apart))
        self.assertLessEqual(len(fits), 1)
        told = fitting(11, many, tuple(zip(xs, rests)))
        self.assertEqual(told, fits[0] if fits else None, (many, xs, rests))
        return told is None

    def test_none_where_no_row_fits_all_rows_by_11_gone_through(self):
        for many in (1, 2):
            worths = {row: [worth(11, row, x) for x in range(11)] for row in all_rows(11, many)}
            for length in range(many, 9):
                dice = dice_of("none", many, length)
                found = {True: 0, False: 0}
                for turn in range(60):
                    xs = tuple(sorted(dice.sample(range(11), length)))
                    # Of few rests, so that some rows fit by luck, or any.
                    rests = tuple(dice.randrange((1, 2, 3, 11)[turn % 4]) for _ in xs)
                    found[self.check_by_all_rows(many, worths, xs, rests)] += 1
                self.assertEqual(found[True] > 0, length > many, (many, length))
                self.assertGreater(found[False], 0)

    def test_none_all_rests_gone_through(self):
        worths = {row: [worth(11, row, x) for x in range(11)] for row in all_rows(11, 1)}
        for xs in ((0, 1), (0, 10), (3, 7), (0, 1, 10), (2, 5, 9)):
            for rests in all_rows(11, len(xs)):
                self.check_by_all_rows(1, worths, xs, rests)

    def test_one_liar_too_many(self):
        # Then no row fits, or another one does.
        for p in SOME_PRIMES:
            for many, length in itertools.combinations(range(1, 9), 2):
                b = (length - many) // 2
                dice = dice_of("too many", p, many, length)
                xs = tuple(sorted(dice.sample(range(p), length)))
                row = thrown_row(dice, p, many)
                liars = dice.sample(xs, b + 1)
                rests = tuple((worth(p, row, x) + (x in liars)) % p for x in xs)
                told = fitting(p, many, tuple(zip(xs, rests)))
                if told is not None:
                    self.assertNotEqual(told[0], row)
                    self.assertLessEqual(len(told[1]), b)
                    self.assertEqual(told[1], misfitting(p, told[0], xs, rests))

    def test_examples(self):
        self.assertEqual(fitting(11, 1, ((0, 4), (1, 4), (10, 5))), ((4,), (10,)))
        self.assertEqual(fitting(11, 2, ((0, 3), (1, 5), (2, 7), (3, 0))), ((3, 2), (3,)))
        self.assertIsNone(fitting(11, 1, ((0, 4), (1, 5))))
        self.assertIsNone(fitting(11, 2, ((0, 3), (1, 5), (2, 8))))

    def test_what_is_handed_in_is_unchanged_and_not_kept(self):
        pairs = [[0, 3], [1, 5], [2, 7], [3, 0]]
        for ask in (lambda: fitting(11, 2, pairs), lambda: rebuilt_right((11, 1, 2, 0), pairs)):
            told = ask()
            self.assertEqual(told, ask())
            self.assertEqual(pairs, [[0, 3], [1, 5], [2, 7], [3, 0]])
            pairs[0][1] = 9
            self.assertEqual(told, ((3, 2), (3,)))
            pairs[0][1] = 3

    def test_somewhat_beyond_the_limits_nothing_is_raised(self):
        xs = tuple(range(10))
        row = (1, 2, 3)
        pairs = tuple((x, worth(11, row, x)) for x in xs)
        self.assertEqual(fitting(11, 3, pairs), (row, ()))
        self.assertEqual(fitting(11, 9, pairs), (row + (0,) * 6, ()))
        fitting(11, 11, pairs)
        fitting(11, 0, pairs)
        fitting(11, 1, ())
        fitting(11, 1, ((11, 12),))


class RebuiltRightTest(unittest.TestCase):
    def test_all_liars_and_what_fitting_tells(self):
        for p in SOME_PRIMES:
            for d in range(1, 6):
                for length in range(d, 9):
                    xs = tuple(range(length - 1)) + (p - 1,)
                    dice = dice_of("rebuilt", p, d, length)
                    row = thrown_row(dice, p, d)
                    for liars in small_groups(xs, (length - d) // 2):
                        rests = [(worth(p, row, x) + (dice.randrange(1, p) if x in liars else 0)) % p for x in xs]
                        self.check(p, d, tuple(zip(xs, rests)), (row, liars))

    def check(self, p, d, pairs, wanted):
        for k in range(1, d + 1):
            self.assertEqual(rebuilt_right((p, k, d, k - 1), pairs), wanted)
            self.assertEqual(rebuilt_right((p, k, d, 0), pairs), wanted)

    def test_any_rests_as_fitting(self):
        found = {True: 0, False: 0}
        for p in SOME_PRIMES:
            for d in range(1, 6):
                for length in range(d, 9):
                    dice = dice_of("any", p, d, length)
                    xs = tuple(sorted(dice.sample(range(p), length)))
                    pairs = tuple(zip(xs, thrown_row(dice, p, length)))
                    wanted = fitting(p, d, pairs)
                    found[wanted is None] += 1
                    self.check(p, d, pairs, wanted)
        self.assertGreater(min(found.values()), 10)

    def test_what_houses_tell(self):
        # Of the table ((1, 2), (2, 5)) house x keeps (1 + 2 x, 2 + 5 x); house 3 keeps (7, 6).
        pairs = tuple((x, product_of(11, (1 + 2 * x, 2 + 5 * x), (1, 3))) for x in (0, 1, 2, 10))
        self.assertEqual(rebuilt_right((11, 2, 2, 1), pairs), ((7, 6), ()))
        lied = with_part(pairs, 2, (2, (pairs[2][1] + 4) % 11))
        self.assertEqual(rebuilt_right((11, 2, 2, 1), lied), ((7, 6), (2,)))


def all_asked(p):
    """(xs, b) for all b and lengths."""
    for b in range(1, 5):
        for length in range(2 * b, 9):
            for xs in some_xs(p, length):
                yield xs, b


class TwoFittingTest(unittest.TestCase):
    def test_two_rows_and_rests_as_told(self):
        for p in PRIMES:
            for xs, b in all_asked(p):
                told = two_fitting(p, xs, b)
                self.assertTrue(is_two(p, xs, b, told), (p, xs, b, told))
                self.assertIs(two_fitting_hold(p, xs, b, told), True)

    def test_all_rising_xs_by_11(self):
        for b in range(1, 5):
            for length in range(2 * b, 9):
                for xs in itertools.combinations(range(11), length):
                    self.assertTrue(is_two(11, xs, b, two_fitting(11, xs, b)), (xs, b))

    def test_kinds_and_the_same_answer_again(self):
        told = two_fitting(11, (0, 3, 10), 1)
        self.assertEqual([type(part) for part in told], [str, tuple, tuple, tuple])
        self.assertEqual([len(part) for part in told[1:]], [2, 2, 3])
        self.assertEqual(two_fitting(11, (0, 3, 10), 1), told)
        xs = [0, 3, 10]
        self.assertEqual(two_fitting(11, xs, 1), told)
        self.assertEqual(xs, [0, 3, 10])

    def test_somewhat_beyond_the_limits_nothing_is_raised(self):
        for xs, b in ((tuple(range(10)), 1), (tuple(range(10)), 5), ((0, 3), 0), ((0,), 1), ((0, 1, 2), 2), ((), 1),
                      ((0, 11), 1), ((3, 2), 1)):
            thing = two_fitting(11, xs, b)
            two_fitting_hold(11, xs, b, thing)
            two_fitting_hold(11, xs, b, ("two", (), (), ()))
        self.assertTrue(is_two(11, tuple(range(10)), 2, two_fitting(11, tuple(range(10)), 2)))


class TwoFittingHoldTest(unittest.TestCase):
    def test_all_of_two_xs_gone_through(self):
        for xs in ((0, 10), (3, 4)):
            for a, b, c, d in all_rows(11, 4):
                thing = ("two", (a,), (b,), (c, d))
                right = a != b and (a in (c, d)) and (b in (c, d))
                self.assertIs(two_fitting_hold(11, xs, 1, thing), right, thing)

    def test_many_of_three_xs(self):
        # The first two pairs of rows are worth the same at one of the xs, the others at none or at all.
        found = 0
        xs = (0, 4, 10)
        for one, other in (((1, 2), (1, 3)), ((0, 0), (4, 10)), ((5, 5), (5, 5)), ((0, 3), (2, 3)), ((7, 1), (0, 6))):
            for rests in all_rows(11, 3):
                thing = ("two", one, other, rests)
                right = is_two(11, xs, 1, thing)
                found += right
                self.assertIs(two_fitting_hold(11, xs, 1, thing), right, thing)
        self.assertEqual(found, 4)

    def made_otherwise(self, dice, p, xs, b):
        """Such a tuple, of any one row, with any x where both fit, and any lots where each of both doesn't."""
        many = len(xs) - (2 * b - 1)
        one = thrown_row(dice, p, many)
        mixed = dice.sample(xs, len(xs))
        roots, rights = mixed[:many - 1], mixed[many - 1:many - 1 + b]
        apart = [dice.randrange(1, p)]
        for root in roots:
            apart = [(low - root * high) % p for low, high in zip([0] + apart, apart + [0])]
        other = tuple((rest + more) % p for rest, more in zip(one, apart, strict=True))
        rests = tuple(worth(p, one if x in rights else other, x) for x in xs)
        return "two", one, other, rests

    def test_ones_made_otherwise(self):
        for p in SOME_PRIMES:
            for xs, b in all_asked(p):
                thing = self.made_otherwise(dice_of("made", p, xs, b), p, xs, b)
                self.assertTrue(is_two(p, xs, b, thing))
                self.assertIs(two_fitting_hold(p, xs, b, thing), True)
                self.assertIs(two_fitting_hold(p, xs, b, ("two", thing[2], thing[1], thing[3])), True)

    def test_any_rest_otherwise(self):
        for p in (11, 211):
            for xs, b in all_asked(p):
                thing = self.made_otherwise(dice_of("rest", p, xs, b), p, xs, b)
                for which in (1, 2, 3):
                    for at, rest in enumerate(thing[which]):
                        for new in ((rest + 1) % p, p, -1, rest + p, rest - p, True, False, 10 ** 29):
                            changed = with_part(thing, which, with_part(thing[which], at, new))
                            right = is_two(p, xs, b, changed)
                            self.assertIs(two_fitting_hold(p, xs, b, changed), right, changed)

    def test_one_misfit_too_many(self):
        # Both rows misfit at b already, and one of them at least fitted where the rest is otherwise now.
        for p in SOME_PRIMES:
            for xs, b in all_asked(p):
                thing = self.made_otherwise(dice_of("misfit", p, xs, b), p, xs, b)
                for at, rest in enumerate(thing[3]):
                    changed = with_part(thing, 3, with_part(thing[3], at, (rest + 1) % p))
                    self.assertIs(two_fitting_hold(p, xs, b, changed), False, changed)

    def test_true_and_false_are_no_rests(self):
        self.assertIs(two_fitting_hold(11, (0, 1), 1, ("two", (0,), (1,), (0, 1))), True)
        for thing in (("two", (False,), (1,), (0, 1)), ("two", (0,), (True,), (0, 1)),
                      ("two", (0,), (1,), (False, 1)), ("two", (0,), (1,), (0, True))):
            self.assertIs(two_fitting_hold(11, (0, 1), 1, thing), False)

    def test_rows_alike(self):
        for xs, b in all_asked(13):
            thing = two_fitting(13, xs, b)
            for row in thing[1:3]:
                rests = tuple(worth(13, row, x) for x in xs)
                self.assertIs(two_fitting_hold(13, xs, b, ("two", row, row, rests)), False)

    def test_rows_of_more_or_fewer_rests(self):
        for xs, b in all_asked(13):
            thing = two_fitting(13, xs, b)
            longer = ("two", thing[1] + (0,), thing[2] + (0,), thing[3])
            self.assertIs(two_fitting_hold(13, xs, b, longer), False)
            self.assertIs(two_fitting_hold(13, xs, b, with_part(thing, 1, thing[1] + (0,))), False)
            self.assertIs(two_fitting_hold(13, xs, b, with_part(thing, 2, thing[2][:-1])), False)
            self.assertIs(two_fitting_hold(13, xs, b, with_part(thing, 3, thing[3] + (0,))), False)

    def test_the_word_otherwise(self):
        thing = two_fitting(11, (0, 1, 2), 1)
        for word in ("", "Two", "two ", "twos", "one", None, 2, True, ("two",), ["two"], {"two": 0}):
            self.assertIs(two_fitting_hold(11, (0, 1, 2), 1, with_part(thing, 0, word)), False, word)

    def test_other_kinds_and_lengths(self):
        for xs, b in (((0, 1), 1), ((0, 1, 2, 10), 1), ((0, 1, 2, 10), 2), (tuple(range(8)), 2)):
            thing = two_fitting(11, xs, b)
            things = [changed for changed in spoiled(thing) if changed != thing]
            things += [thing[1:], thing[:3], thing + ((),), thing + thing[3:], (thing,)]
            for which in (1, 2, 3):
                things += [with_part(thing, which, one) for one in spoiled(thing[which])]
            for changed in things:
                self.assertIs(two_fitting_hold(11, xs, b, changed), False, changed)

    def test_whatever_it_is(self):
        right = two_fitting(11, (0, 1), 1)
        for thing in plain_things():
            before = copy.deepcopy(thing)
            self.assertIs(two_fitting_hold(11, (0, 1), 1, thing), False, repr(thing)[:60])
            for at in range(4):
                changed = with_part(right, at, thing)
                self.assertIs(two_fitting_hold(11, (0, 1), 1, changed), is_two(11, (0, 1), 1, changed))
            self.assertEqual(thing, before)

    def test_of_other_xs_and_another_b(self):
        for xs, b in all_asked(17):
            thing = self.made_otherwise(dice_of("xs", xs, b), 17, xs, b)
            for others, many in ((xs[1:], b), (xs, b + 1), (xs, b - 1), (tuple((x + 3) % 17 for x in xs), b)):
                right = is_two(17, others, many, thing)
                self.assertIs(two_fitting_hold(17, others, many, thing), right)


if __name__ == "__main__":
    unittest.main()
