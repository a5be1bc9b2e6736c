"""Promise [16], and [2] and [3] as far as they speak of toldpieces.dice."""

import itertools
import unittest

from tests.odd_things import with_part
from tests.sample_rows import SOME_PRIMES, all_rows, dice_of, is_tuple_of_rests, product_of, thrown_row
from tests.sample_things import (
    own_keeps, own_places, own_size_alone, own_table, own_tells, shapes_by, small_groups, some_xs, thrown_thing,
)
from toldpieces.dice import dice_for, learned_by


def kept_by(shape, xs, secrets, dice):
    table = own_table(shape, secrets, dice)
    return tuple(own_keeps(shape, table, x) for x in xs)


class DiceForTest(unittest.TestCase):
    def test_the_very_dice(self):
        for shape in shapes_by(*SOME_PRIMES):
            p, k, d, l = shape
            for xs in some_xs(p, l):
                secrets, dice = thrown_thing(dice_of("very", shape, xs), shape)
                told = dice_for(shape, xs, kept_by(shape, xs, secrets, dice), secrets)
                self.assertEqual((told, type(told)), (dice, tuple))

    def test_for_any_secrets(self):
        for shape in shapes_by(11, 211):
            p, k, d, l = shape
            for xs in some_xs(p, l):
                dice = dice_of("any", shape, xs)
                rows = kept_by(shape, xs, *thrown_thing(dice, shape))
                for _ in range(4):
                    secrets = thrown_thing(dice, shape)[0]
                    told = dice_for(shape, xs, rows, secrets)
                    self.assertTrue(is_tuple_of_rests(p, len(own_places(shape)[1]), told))
                    self.assertEqual(kept_by(shape, xs, secrets, told), rows)

    def tell_alike(self, shape, xs, rows):
        """Whether each of these houses tells for each other one what that one tells for it."""
        pairs = list(zip(xs, rows))
        return all(own_tells(shape, row, y) == own_tells(shape, other, x)
                   for (x, row), (y, other) in itertools.combinations(pairs, 2))

    def test_none_for_any_secrets_or_one_for_all(self):
        found = {True: 0, False: 0}
        for shape in shapes_by(11, 13):
            p, k, d, l = shape
            for xs in some_xs(p, l):
                dice = dice_of("none", shape, xs)
                right = kept_by(shape, xs, *thrown_thing(dice, shape))
                all_bent = [right, tuple(thrown_row(dice, p, d) for _ in xs)]
                for at, column in itertools.product(range(l), range(d)):
                    rest = (right[at][column] + dice.randrange(1, p)) % p
                    all_bent.append(with_part(right, at, with_part(right[at], column, rest)))
                for rows in all_bent:
                    there = self.tell_alike(shape, xs, rows)
                    found[there] += 1
                    for _ in range(2):
                        secrets = thrown_thing(dice, shape)[0]
                        told = dice_for(shape, xs, rows, secrets)
                        self.assertEqual(told is not None, there, (shape, xs, rows))
                        if there:
                            self.assertEqual(kept_by(shape, xs, secrets, told), rows)
        self.assertGreater(min(found.values()), 100)

    def test_all_dice_gone_through(self):
        for shape, x in (((11, 2, 2, 1), 0), ((11, 2, 2, 1), 4), ((11, 2, 2, 1), 10)):
            for secret in (0, 7):
                by_rows = {}
                for dice in all_rows(11, 2):
                    by_rows.setdefault(kept_by(shape, (x,), (secret,), dice), []).append(dice)
                for row in all_rows(11, 2):
                    self.assertEqual([dice_for(shape, (x,), (row,), (secret,))], by_rows.get((row,), [None]))

    def test_there_is_one_at_most_all_dice_gone_through(self):
        # Two houses of three rests, five dice, of which two are gone through with all others as they are found.
        shape, xs, secrets = (11, 3, 3, 2), (3, 10), (6,)
        dice = (1, 2, 3, 4, 5)
        rows = kept_by(shape, xs, secrets, dice)
        self.assertEqual(dice_for(shape, xs, rows, secrets), dice)
        for at, other in itertools.combinations(range(5), 2):
            for one, two in all_rows(11, 2):
                changed = with_part(with_part(dice, at, one), other, two)
                self.assertEqual(kept_by(shape, xs, secrets, changed) == rows, changed == dice)

    def test_no_dice(self):
        for shape in shapes_by(11):
            if shape[3] == 0:
                secrets = thrown_thing(dice_of("no", shape), shape)[0]
                self.assertEqual(dice_for(shape, (), (), secrets), ())

    def test_whoever_sees_l_houses_knows_nothing(self):
        # For any secrets there are as many dice with which the houses keep what was seen: one.
        shape = (11, 2, 2, 1)
        for x in (0, 5, 10):
            row = (3, 8)
            ways = {secret: [dice for dice in all_rows(11, 2) if kept_by(shape, (x,), (secret,), dice) == (row,)]
                    for secret in range(11)}
            self.assertEqual({len(dice) for dice in ways.values()}, {1})
            for secret in range(11):
                self.assertEqual(ways[secret], [dice_for(shape, (x,), (row,), (secret,))])


class LearnedByTest(unittest.TestCase):
    def own_rows(self, shape, xs):
        """What the houses keep as sums of the numbers at the places, by those where one number is 1."""
        secret_places, dice_places = own_places(shape)
        rows = []
        for place in sorted(secret_places + dice_places):
            table = own_table(shape, [int(one == place) for one in secret_places],
                              [int(one == place) for one in dice_places])
            rows.append([rest for x in xs for rest in own_keeps(shape, table, x)])
        return [tuple(row) for row in zip(*rows)]

    def test_nothing_for_l_houses_and_fewer(self):
        for shape in shapes_by(*SOME_PRIMES):
            p, k, d, l = shape
            for many in range(l + 1):
                for xs in some_xs(p, many):
                    told = learned_by(shape, tuple(own_places(shape)[1]), xs)
                    self.assertEqual((told, type(told)), (0, int))

    def test_more_houses_with_the_dice_of_the_shape(self):
        for shape in shapes_by(11):
            p, k, d, l = shape
            secrets, dice = own_places(shape)
            for many in range(9):
                xs = tuple(range(many))
                wanted = 0 if many <= l else min(many, k) * d - min(many, k) * (min(many, k) - 1) // 2 - len(dice)
                self.assertEqual(learned_by(shape, tuple(dice), xs), wanted)
                self.assertLessEqual(wanted, len(secrets))

    def test_above_0_for_each_l_houses_with_fewer_dice_places(self):
        for shape in shapes_by(11, 101):
            p, k, d, l = shape
            secrets, dice = own_places(shape)
            places = tuple(sorted(secrets + dice))
            for many in range(len(dice)):
                thrown = dice_of("fewer", shape, many)
                groups = [tuple(sorted(thrown.sample(places, many))) for _ in range(4)] + [tuple(dice[:many])]
                for some in groups:
                    for xs in some_xs(p, l):
                        self.assertGreater(learned_by(shape, some, xs), 0, (shape, some, xs))

    def test_all_dice_places_of_small_shapes_all_numbers_gone_through(self):
        for shape in ((11, 1, 1, 0), (11, 1, 2, 0), (11, 1, 3, 0), (11, 2, 2, 0), (11, 2, 2, 1)):
            secret_places, dice_places = own_places(shape)
            places = tuple(sorted(secret_places + dice_places))
            for xs in ((), (0,), (10,), (3,), (0, 10), (3, 4), (1, 2, 10)):
                unseen = [numbers for numbers in all_rows(11, len(places))
                          if not any(any(row) for row in self.kept(shape, places, numbers, xs))]
                for some in small_groups(places, len(places)):
                    self.check(shape, places, some, xs, unseen)

    def kept(self, shape, places, numbers, xs):
        at = dict(zip(places, numbers))
        secret_places, dice_places = own_places(shape)
        return kept_by(shape, xs, [at[place] for place in secret_places], [at[place] for place in dice_places])

    def check(self, shape, places, some, xs, unseen):
        """A sum is known where it comes to 0 at all numbers of which the houses keep noughts: these are counted."""
        others = [at for at, place in enumerate(places) if place not in some]
        known = 0
        for factors in all_rows(11, len(others)):
            known += all(product_of(11, factors, [numbers[at] for at in others]) == 0 for numbers in unseen)
        self.assertEqual(11 ** learned_by(shape, some, xs), known, (shape, some, xs))

    def test_by_rooms_for_others(self):
        for shape in shapes_by(11, 211):
            p, k, d, l = shape
            secrets, dice = own_places(shape)
            places = sorted(secrets + dice)
            for turn in range(8):
                thrown = dice_of("rooms", shape, turn)
                some = tuple(sorted(thrown.sample(places, thrown.randrange(len(places) + 1))))
                xs = tuple(sorted(thrown.sample(range(p), thrown.randrange(9))))
                others = [at for at, place in enumerate(places) if place not in some]
                wanted = own_size_alone(p, len(places), self.own_rows(shape, xs), others)
                self.assertEqual(learned_by(shape, some, xs), wanted)

    def test_no_houses_no_dice_places_and_all(self):
        for shape in shapes_by(11):
            p, k, d, l = shape
            places = tuple(sorted(sum(own_places(shape), [])))
            self.assertEqual(learned_by(shape, (), ()), 0)
            self.assertEqual(learned_by(shape, places, ()), 0)
            for many in range(1, 9):
                xs = tuple(range(11 - many, 11))
                self.assertEqual(learned_by(shape, places, xs), 0)
                self.assertEqual(learned_by(shape, (), xs), min(many, k) * d - min(many, k) * (min(many, k) - 1) // 2)

    def test_somewhat_beyond_the_limits_nothing_is_raised(self):
        shape = (11, 2, 3, 1)
        learned_by(shape, ((0, 0), (4, 4)), tuple(range(10)))
        learned_by(shape, (), (11, 12))
        dice_for(shape, (), (), (1, 2))
        dice_for(shape, (0, 1), ((1, 2, 3), (4, 5, 6)), (1, 2))
        dice_for(shape, (0, 1), ((1, 2, 3),), (1, 2))


if __name__ == "__main__":
    unittest.main()
