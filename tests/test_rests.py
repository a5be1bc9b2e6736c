"""Promise [4], and [3] as far as it speaks of toldpieces.rests."""

import copy
import unittest

from tests.odd_things import plain_things, spoiled
from toldpieces.rests import PRIMES, contrary, is_number, is_prime, is_rest, is_row


def has_no_divisor(number):
    return all(number % small for small in range(2, number))


WANTED = [number for number in range(11, 212) if has_no_divisor(number)]


class PrimesTest(unittest.TestCase):
    def test_primes_are_the_tuple_of_those_from_11_to_211(self):
        self.assertIs(type(PRIMES), tuple)
        self.assertEqual(list(PRIMES), WANTED)
        self.assertEqual((PRIMES[0], PRIMES[-1], len(PRIMES)), (11, 211, 43))

    def test_is_prime_is_true_of_just_the_primes(self):
        for number in range(-300, 1000):
            self.assertIs(is_prime(number), number in WANTED, number)

    def test_is_prime_is_false_of_great_numbers(self):
        for number in (11 * 13, 211 * 211, 223, 10 ** 29, -(10 ** 29), int("9" * 30), 2 ** 89 - 1):
            self.assertIs(is_prime(number), False, number)

    def test_is_prime_is_false_of_all_else(self):
        dressed = ["11", " 11", "11\n", (11,), [11], {"11": 11}, PRIMES, list(PRIMES), (11, 13), str(PRIMES)]
        for thing in plain_things() + dressed:
            self.assertIs(is_prime(thing), False, repr(thing)[:60])

    def test_is_prime_leaves_what_is_handed_in(self):
        for thing in plain_things():
            before = copy.deepcopy(thing)
            is_prime(thing)
            self.assertEqual(thing, before)


class ContraryTest(unittest.TestCase):
    def test_times_what_is_told_comes_to_1_for_all_rests(self):
        for p in PRIMES:
            for a in range(1, p):
                b = contrary(p, a)
                self.assertIs(type(b), int)
                self.assertTrue(0 <= b < p, (p, a, b))
                self.assertEqual(a * b % p, 1, (p, a, b))

    def test_the_edges(self):
        for p in PRIMES:
            self.assertEqual((contrary(p, 1), contrary(p, p - 1)), (1, p - 1))
        self.assertEqual([contrary(11, a) for a in range(1, 11)], [1, 6, 4, 3, 9, 2, 8, 7, 5, 10])

    def test_somewhat_beyond_the_rests_nothing_is_raised(self):
        self.assertEqual((contrary(11, 13), contrary(11, -1)), (6, 10))
        for a in (0, 11, -11):
            contrary(11, a)


class RowsTest(unittest.TestCase):
    """The helpers on which the judges of the package stand."""

    def test_numbers_are_whole_ones_but_true_and_false(self):
        for thing in plain_things():
            self.assertIs(is_number(thing), type(thing) is int, repr(thing)[:60])

    def test_rests_are_from_0_to_below_p(self):
        for p in PRIMES:
            told = [number for number in range(-p, 2 * p) if is_rest(p, number)]
            self.assertEqual(told, list(range(p)))
        for thing in (True, False, None, "0", (0,), [0], {}):
            self.assertIs(is_rest(11, thing), False)

    def test_rows_are_tuples_of_so_many_rests(self):
        for many in range(9):
            for rest in (0, 1, 10):
                row = (rest,) * many
                self.assertIs(is_row(11, many, row), True)
                self.assertIs(is_row(11, many + 1, row), False)
                for thing in spoiled(row):
                    self.assertIs(is_row(11, many, thing), False, thing)
        for row in ((0, 11), (11, 0), (-1, 0), (0, -1), (0, 10 ** 29)):
            self.assertIs(is_row(11, 2, row), False)


if __name__ == "__main__":
    unittest.main()
