"""Promise [5], and [3] as far as it speaks of toldpieces.powers."""

import itertools
import unittest

from toldpieces.powers import powers_of, through, worth_at
from toldpieces.rests import PRIMES


def sample_row(p, many, seed):
    """Some row of many rests that looks like no pattern in its places."""
    return tuple((seed * seed + 7 * at * at * seed + 5 * at ** 3 + 3) % p for at in range(many))


def sum_of_powers(p, row, x):
    return sum(rest * x ** at for at, rest in enumerate(row)) % p


def some_xs(p, many):
    """Rising tuples of so many unlike rests, with 0, with p - 1, with both."""
    yield tuple(range(many))
    yield tuple(range(p - many, p))
    yield tuple(range(many - 1)) + (p - 1,)
    step = (p - 1) // many
    yield tuple(step * at for at in range(many))


class PowersOfTest(unittest.TestCase):
    def test_all_primes_all_rests(self):
        for p in PRIMES:
            for x in range(p):
                wanted = tuple(pow(x, at, p) for at in range(8))
                for many in range(1, 9):
                    self.assertEqual(powers_of(p, many, x), wanted[:many], (p, many, x))

    def test_kinds(self):
        for many in range(1, 9):
            told = powers_of(13, many, 5)
            self.assertIs(type(told), tuple)
            self.assertEqual([type(rest) for rest in told], [int] * many)

    def test_edges(self):
        for p in PRIMES:
            for many in range(1, 9):
                self.assertEqual(powers_of(p, many, 0), (1, 0, 0, 0, 0, 0, 0, 0)[:many])
                self.assertEqual(powers_of(p, many, 1), (1,) * many)
                self.assertEqual(powers_of(p, many, p - 1), (1, p - 1, 1, p - 1, 1, p - 1, 1, p - 1)[:many])

    def test_somewhat_beyond_the_limits_nothing_is_raised(self):
        self.assertEqual(powers_of(11, 9, 2), (1, 2, 4, 8, 5, 10, 9, 7, 3))
        self.assertEqual(powers_of(11, 3, 13), (1, 2, 4))
        powers_of(11, 0, 2)


class WorthAtTest(unittest.TestCase):
    def test_all_short_rows_by_11(self):
        for many in (1, 2, 3):
            for row in itertools.product(range(11), repeat=many):
                for x in range(11):
                    self.assertEqual(worth_at(11, row, x), sum_of_powers(11, row, x), (row, x))

    def test_rows_of_1_to_8_by_all_primes(self):
        for p in PRIMES:
            for many in range(1, 9):
                for row in (sample_row(p, many, p), sample_row(p, many, 2), (p - 1,) * many, (0,) * many):
                    for x in (0, 1, 2, p // 2, p - 2, p - 1):
                        told = worth_at(p, row, x)
                        self.assertIs(type(told), int)
                        self.assertTrue(0 <= told < p)
                        self.assertEqual(told, sum_of_powers(p, row, x), (p, row, x))

    def test_at_0_it_is_the_first_of_the_row(self):
        for p in PRIMES:
            for many in range(1, 9):
                for seed in range(5):
                    row = sample_row(p, many, seed)
                    self.assertEqual(worth_at(p, row, 0), row[0])

    def test_powers_of_is_its_measure(self):
        for p in (11, 101, 211):
            for x in range(p):
                for many in range(1, 9):
                    row = sample_row(p, many, x)
                    powers = powers_of(p, many, x)
                    wanted = sum(rest * power for rest, power in zip(row, powers)) % p
                    self.assertEqual(worth_at(p, row, x), wanted)

    def test_somewhat_beyond_the_limits_nothing_is_raised(self):
        self.assertEqual(worth_at(11, (1,) * 9, 1), 9)
        self.assertEqual(worth_at(11, (1, 1), 12), 2)
        worth_at(11, (), 3)


class ThroughTest(unittest.TestCase):
    def check(self, p, pairs):
        told = through(p, pairs)
        self.assertIs(type(told), tuple)
        self.assertEqual(len(told), len(pairs))
        for rest in told:
            self.assertIs(type(rest), int)
            self.assertTrue(0 <= rest < p)
        for x, rest in pairs:
            self.assertEqual(sum_of_powers(p, told, x), rest, (p, pairs, told))

    def test_one_and_two_pairs_by_11_all_of_them(self):
        for x in range(11):
            for rest in range(11):
                self.assertEqual(through(11, ((x, rest),)), (rest,))
        for one, other in itertools.combinations(range(11), 2):
            for rests in itertools.product(range(11), repeat=2):
                self.check(11, ((one, rests[0]), (other, rests[1])))

    def test_all_rising_xs_by_11(self):
        for many in range(1, 9):
            for xs in itertools.combinations(range(11), many):
                self.check(11, tuple(zip(xs, sample_row(11, many, sum(xs)))))

    def test_1_to_8_pairs_by_all_primes(self):
        for p in PRIMES:
            for many in range(1, 9):
                for xs in some_xs(p, many):
                    for rests in (sample_row(p, many, p), (0,) * many, (p - 1,) * many):
                        self.check(p, tuple(zip(xs, rests)))

    def test_the_very_row_comes_back(self):
        for p in PRIMES:
            for many in range(1, 9):
                for length in range(1, many + 1):
                    row = sample_row(p, length, many)
                    for xs in some_xs(p, many):
                        pairs = tuple((x, sum_of_powers(p, row, x)) for x in xs)
                        noughts = (0,) * (many - length)
                        self.assertEqual(through(p, pairs), row + noughts, (p, pairs))

    def test_an_example(self):
        self.assertEqual(through(11, ((0, 3), (1, 6), (10, 4))), (3, 1, 2))

    def test_what_is_handed_in_is_unchanged_and_not_kept(self):
        pairs = [[0, 3], [1, 6], [10, 4]]
        told = through(11, pairs)
        self.assertEqual(pairs, [[0, 3], [1, 6], [10, 4]])
        pairs[0][1] = 5
        self.assertEqual(told, (3, 1, 2))
        row = [3, 1, 2]
        self.assertEqual(worth_at(11, row, 10), 4)
        self.assertEqual(row, [3, 1, 2])

    def test_the_same_question_gets_the_same_answer(self):
        pairs = ((0, 3), (1, 6), (10, 4))
        self.assertEqual([through(11, pairs) for _ in range(3)], [(3, 1, 2)] * 3)
        self.assertEqual([worth_at(11, (3, 1, 2), 10) for _ in range(3)], [4] * 3)
        self.assertEqual([powers_of(11, 3, 2) for _ in range(3)], [(1, 2, 4)] * 3)

    def test_somewhat_beyond_the_limits_nothing_is_raised(self):
        self.check(13, tuple(zip(range(10), sample_row(13, 10, 4))))
        through(11, ())


if __name__ == "__main__":
    unittest.main()
