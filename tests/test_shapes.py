"""Promises [7], [8] (is_thing), and [3] as far as it speaks of toldpieces.shapes."""

import copy
import unittest

from tests.odd_things import plain_things, spoiled, with_part
from tests.sample_rows import is_tuple_of_rests
from tests.sample_things import BOUNDS, shapes_by
from toldpieces.rests import PRIMES
from toldpieces.shapes import dice_many, is_shape, is_thing, places_of, secrets_many


def some_thing(shape, seed):
    """Some thing of the shape, counted out by the places."""
    p, k, d, l = shape
    dice = sum(1 for row in range(l) for column in range(row, d))
    secrets = sum(1 for row in range(l, k) for column in range(row, d))
    rests = [(seed * seed + 3 * at * at + seed * at) % p for at in range(secrets + dice)]
    return tuple(rests[:secrets]), tuple(rests[secrets:])


class IsShapeTest(unittest.TestCase):
    def test_all_numbers_in_and_around_the_bounds(self):
        around = range(-2, 9)
        right = set(BOUNDS)
        self.assertEqual(len(right), 35)
        for p in PRIMES:
            for k in around:
                for d in around:
                    for l in around:
                        self.assertIs(is_shape((p, k, d, l)), (k, d, l) in right, (p, k, d, l))

    def test_p_is_a_prime_of_11_to_211(self):
        for p in range(-230, 260):
            for k, d, l in ((1, 1, 0), (2, 3, 1), (5, 5, 4)):
                self.assertIs(is_shape((p, k, d, l)), p in PRIMES, p)

    def test_great_numbers(self):
        for at in range(4):
            for number in (10 ** 29, -(10 ** 29), 2 ** 89 - 1):
                self.assertIs(is_shape(with_part((11, 2, 3, 1), at, number)), False)

    def test_true_and_false_are_no_numbers(self):
        for shape in ((11, True, 1, 0), (11, 1, True, 0), (11, 1, 1, False), (11, True, True, False),
                      (11, 2, 3, True), (11, 2, 2, False), (True, 1, 1, 0), (11, True, 5, 0)):
            self.assertIs(is_shape(shape), False, shape)

    def test_other_kinds_and_lengths(self):
        for shape in shapes_by(11, 97, 211):
            self.assertIs(is_shape(shape), True)
            for thing in spoiled(shape):
                self.assertIs(is_shape(thing), False, thing)

    def test_whatever_it_is(self):
        for thing in plain_things() + [(), (11, 1, 1), (11, 1, 1, 0, 0), [11, 1, 1, 0], "11 1 1 0"]:
            self.assertIs(is_shape(thing), False, repr(thing)[:60])
        for thing in plain_things():
            right = type(thing) is int and thing in (0, 1)
            self.assertIs(is_shape((11, 2, 3, thing)), right, repr(thing)[:60])

    def test_what_is_handed_in_is_unchanged(self):
        for thing in plain_things() + [[11, [1], 1, 0]]:
            before = copy.deepcopy(thing)
            is_shape(thing)
            is_thing((11, 2, 3, 1), thing)
            self.assertEqual(thing, before)


class PlacesTest(unittest.TestCase):
    def test_places_are_the_pairs_rising(self):
        for shape in shapes_by(11, 211):
            p, k, d, l = shape
            wanted = [(row, column) for row in range(20) for column in range(20)
                      if row <= k - 1 and row <= column <= d - 1]
            self.assertEqual(places_of(shape), tuple(sorted(wanted)), shape)

    def test_kinds(self):
        for shape in shapes_by(13):
            told = places_of(shape)
            self.assertIs(type(told), tuple)
            for place in told:
                self.assertIs(type(place), tuple)
                self.assertEqual([type(part) for part in place], [int, int])
            self.assertEqual(told, places_of(shape))

    def test_examples(self):
        self.assertEqual(places_of((11, 2, 3, 1)), ((0, 0), (0, 1), (0, 2), (1, 1), (1, 2)))
        self.assertEqual(places_of((11, 1, 1, 0)), ((0, 0),))
        self.assertEqual(places_of((11, 3, 3, 2)), ((0, 0), (0, 1), (0, 2), (1, 1), (1, 2), (2, 2)))


class ManyTest(unittest.TestCase):
    def test_by_counting_the_places(self):
        for shape in shapes_by(*PRIMES):
            l = shape[3]
            rows = [row for row, column in places_of(shape)]
            self.assertEqual(dice_many(shape), len([row for row in rows if row < l]), shape)
            self.assertEqual(secrets_many(shape), len([row for row in rows if row >= l]), shape)

    def test_by_the_sums(self):
        for shape in shapes_by(11, 101, 211):
            p, k, d, l = shape
            self.assertEqual(2 * (secrets_many(shape) + dice_many(shape)), 2 * k * d - k * (k - 1))
            self.assertEqual(2 * dice_many(shape), 2 * l * d - l * (l - 1))
            self.assertGreater(secrets_many(shape), 0)
            if l == 0:
                self.assertEqual(dice_many(shape), 0)

    def test_kinds_and_examples(self):
        for shape in shapes_by(17):
            self.assertIs(type(secrets_many(shape)), int)
            self.assertIs(type(dice_many(shape)), int)
        self.assertEqual((secrets_many((11, 2, 3, 1)), dice_many((11, 2, 3, 1))), (2, 3))
        self.assertEqual((secrets_many((11, 5, 5, 4)), dice_many((11, 5, 5, 4))), (1, 14))
        self.assertEqual((secrets_many((11, 5, 5, 0)), dice_many((11, 5, 5, 0))), (15, 0))


class IsThingTest(unittest.TestCase):
    def test_things_of_all_shapes(self):
        for shape in shapes_by(*PRIMES):
            for seed in range(3):
                self.assertIs(is_thing(shape, some_thing(shape, seed)), True, shape)

    def test_the_edges_of_a_rest_at_each_place(self):
        for shape in shapes_by(11, 211):
            p = shape[0]
            thing = some_thing(shape, 5)
            for which in range(2):
                for at in range(len(thing[which])):
                    for rest, right in ((0, True), (p - 1, True), (p, False), (-1, False), (10 ** 29, False),
                                        (True, False), (False, False), (None, False), ("0", False), ((0,), False)):
                        changed = with_part(thing, which, with_part(thing[which], at, rest))
                        self.assertIs(is_thing(shape, changed), right, (shape, changed))

    def test_rows_of_other_kinds_and_lengths(self):
        for shape in shapes_by(11, 13):
            thing = some_thing(shape, 1)
            for changed in spoiled(thing):
                self.assertIs(is_thing(shape, changed), False, (shape, changed))
            for which in range(2):
                for row in spoiled(thing[which]):
                    self.assertIs(is_thing(shape, with_part(thing, which, row)), False, (shape, row))
                longer = thing[which] + (0,)
                self.assertIs(is_thing(shape, with_part(thing, which, longer)), False, shape)

    def test_rows_exchanged(self):
        unlike = 0
        for shape in shapes_by(11):
            secrets, dice = some_thing(shape, 2)
            self.assertIs(is_thing(shape, (dice, secrets)), len(secrets) == len(dice), shape)
            unlike += len(secrets) != len(dice)
        self.assertGreater(unlike, 25)

    def test_one_and_three_rows_and_a_row_of_all(self):
        for shape in shapes_by(11):
            secrets, dice = some_thing(shape, 2)
            for thing in ((), (secrets,), (dice,), (secrets, dice, ()), (secrets, dice, dice), ((), secrets, dice),
                          secrets + dice, (secrets + dice,), (secrets + dice, ()), [secrets, dice],
                          [list(secrets), list(dice)], (list(secrets), list(dice)), {"secrets": secrets}):
                right = thing == (secrets, dice)  # secrets and dice in one, where there are no dice
                self.assertIs(is_thing(shape, thing), right, (shape, thing))

    def test_whatever_it_is(self):
        for shape in shapes_by(11, 211):
            p = shape[0]
            secrets, dice = some_thing(shape, 2)
            for thing in plain_things():
                self.assertIs(is_thing(shape, thing), False, repr(thing)[:60])
                right = is_tuple_of_rests(p, len(dice), thing)
                self.assertIs(is_thing(shape, (secrets, thing)), right, repr(thing)[:60])
                right = is_tuple_of_rests(p, len(secrets), thing)
                self.assertIs(is_thing(shape, (thing, dice)), right, repr(thing)[:60])

    def test_a_thing_of_one_shape_is_none_of_another(self):
        counted = {shape: tuple(len(row) for row in some_thing(shape, 1)) for shape in shapes_by(13)}
        for shape in counted:
            for other in counted:
                right = counted[shape] == counted[other]
                self.assertIs(is_thing(other, some_thing(shape, 1)), right, (shape, other))

    def test_the_same_question_gets_the_same_answer(self):
        shape = (11, 2, 3, 1)
        for _ in range(3):
            self.assertIs(is_thing(shape, ((1, 2), (3, 4, 5))), True)
            self.assertIs(is_thing(shape, ((3, 4, 5), (1, 2))), False)


if __name__ == "__main__":
    unittest.main()
