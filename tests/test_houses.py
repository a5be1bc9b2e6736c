"""Promises [9], [10] and [11], and [3] as far as it speaks of toldpieces.houses."""

import copy
import itertools
import unittest

from tests.odd_things import plain_things, spoiled, with_part
from tests.sample_rows import SOME_PRIMES, all_rows, dice_of, is_tuple_of_rests, thrown_row
from tests.sample_things import (
    added, noughts_table, own_is_table, own_keeps, own_table, own_tells, shapes_by, small_groups, some_xs,
    thrown_table, thrown_thing,
)
from toldpieces.houses import alike_holds, alike_on, keeps_of, read_back, rebuilt, tells_for


def own_alike(shape, xs, thing):
    if not own_is_table(shape, thing) or thing == noughts_table(shape):
        return False
    return all(own_keeps(shape, thing, x) == (0,) * shape[2] for x in xs)


class KeepsTest(unittest.TestCase):
    def test_the_sums_as_told(self):
        for shape in shapes_by(*SOME_PRIMES):
            p, k, d, l = shape
            table = thrown_table(dice_of("keeps", shape), shape)
            for x in (0, 1, 2, p // 2, p - 2, p - 1):
                told = keeps_of(shape, table, x)
                self.assertEqual(told, own_keeps(shape, table, x), (shape, x))
                self.assertTrue(is_tuple_of_rests(p, d, told))

    def test_house_0_keeps_the_first_row(self):
        for shape in shapes_by(13):
            table = thrown_table(dice_of("first", shape), shape)
            self.assertEqual(keeps_of(shape, table, 0), table[0])

    def test_examples(self):
        table = ((3, 4, 5), (4, 1, 2), (5, 2, 0))
        self.assertEqual(keeps_of((11, 2, 3, 1), table, 0), (3, 4, 5))
        self.assertEqual(keeps_of((11, 2, 3, 1), table, 1), (1, 7, 7))
        self.assertEqual(keeps_of((11, 2, 3, 1), table, 2), (9, 3, 9))
        self.assertEqual(keeps_of((11, 2, 3, 1), table, 10), (4, 5, 3))
        self.assertEqual(tells_for((11, 2, 3, 1), (9, 3, 9), 10), 4)

    def test_what_x_tells_for_y_is_what_y_tells_for_x(self):
        for shape in shapes_by(11, 211):
            p = shape[0]
            table = thrown_table(dice_of("tells", shape), shape)
            for x, y in itertools.combinations_with_replacement((0, 1, 2, 5, p - 1), 2):
                told = tells_for(shape, keeps_of(shape, table, x), y)
                self.assertIs(type(told), int)
                self.assertEqual(told, own_tells(shape, own_keeps(shape, table, x), y))
                self.assertEqual(told, tells_for(shape, keeps_of(shape, table, y), x))
                self.assertIn(told, range(p))


class RebuiltTest(unittest.TestCase):
    def test_what_any_d_others_tell(self):
        for shape in shapes_by(11, 101):
            p, k, d, l = shape
            table = thrown_table(dice_of("rebuilt", shape), shape)
            houses = (0, 1, 3, 4, 6, 9, p - 1)
            # House 5 was never there.
            for y in (0, 3, 5, p - 1):
                for xs in itertools.combinations([x for x in houses if x != y], d):
                    pairs = tuple((x, tells_for(shape, keeps_of(shape, table, x), y)) for x in xs)
                    self.assertEqual(rebuilt(shape, pairs), own_keeps(shape, table, y))

    def test_of_any_rests_the_row_that_is_worth_these(self):
        for shape in shapes_by(*SOME_PRIMES):
            p, k, d, l = shape
            for xs in some_xs(p, d):
                rests = thrown_row(dice_of("any", shape, xs), p, d)
                row = rebuilt(shape, tuple(zip(xs, rests)))
                self.assertTrue(is_tuple_of_rests(p, d, row))
                self.assertEqual(tuple(own_tells(shape, row, x) for x in xs), rests)

    def test_examples(self):
        self.assertEqual(rebuilt((11, 1, 1, 0), ((10, 7),)), (7,))
        self.assertEqual(rebuilt((11, 2, 3, 1), ((0, 3), (1, 6), (10, 4))), (3, 1, 2))


class ReadBackTest(unittest.TestCase):
    def test_the_very_table_from_any_k_houses(self):
        for shape in shapes_by(11, 101):
            p, k, d, l = shape
            for turn in range(2):
                table = thrown_table(dice_of("read", shape, turn), shape)
                for xs in itertools.combinations((0, 1, 3, 4, 6, p - 1), k):
                    pairs = tuple((x, own_keeps(shape, table, x)) for x in xs)
                    told = read_back(shape, pairs)
                    self.assertEqual(told, table)
                    self.assertTrue(own_is_table(shape, told))

    def test_one_rest_of_one_row_otherwise(self):
        found = {True: 0, False: 0}
        for shape in shapes_by(11, 101):
            p, k, d, l = shape
            table = thrown_table(dice_of("bent", shape), shape)
            for xs in some_xs(p, k):
                pairs = tuple((x, own_keeps(shape, table, x)) for x in xs)
                for at, column in itertools.product(range(k), range(d)):
                    x, row = pairs[at]
                    bent = with_part(pairs, at, (x, with_part(row, column, (row[column] + 1) % p)))
                    told = read_back(shape, bent)
                    found[told is None] += 1
                    if told is not None:
                        self.check(shape, bent, told)
                    else:
                        self.assertGreater(k, 1)
        self.assertGreater(min(found.values()), 100)

    def check(self, shape, pairs, table):
        self.assertTrue(own_is_table(shape, table))
        for x, row in pairs:
            self.assertEqual(own_keeps(shape, table, x), row)

    def test_none_of_any_other_rows_all_gone_through(self):
        # All pairs of rows of two rests, by all tables of the shape.
        shape = (11, 2, 2, 1)
        xs = (3, 10)
        by_rows = {}
        for a, b, c in all_rows(11, 3):
            table = ((a, b), (b, c))
            by_rows[tuple((x, own_keeps(shape, table, x)) for x in xs)] = table
        self.assertEqual(len(by_rows), 11 ** 3)
        for one in all_rows(11, 2):
            for other in all_rows(11, 2):
                pairs = ((3, one), (10, other))
                self.assertEqual(read_back(shape, pairs), by_rows.get(pairs))

    def test_of_one_house_there_is_always_a_table(self):
        for d in range(1, 6):
            for x in (0, 1, 12):
                row = thrown_row(dice_of("always", d, x), 13, d)
                self.check((13, 1, d, 0), ((x, row),), read_back((13, 1, d, 0), ((x, row),)))

    def test_thrown_rows(self):
        for shape in shapes_by(11):
            p, k, d, l = shape
            for xs in some_xs(p, k):
                pairs = tuple((x, thrown_row(dice_of("rows", shape, x), p, d)) for x in xs)
                told = read_back(shape, pairs)
                if told is not None:
                    self.check(shape, pairs, told)
                if k == 1:
                    self.assertIsNotNone(told)

    def test_somewhat_beyond_the_limits_nothing_is_raised(self):
        shape = (11, 3, 5, 1)
        table = thrown_table(dice_of("beyond"), shape)
        pairs = tuple((x, own_keeps(shape, table, x)) for x in range(9))
        for many in range(9):
            read_back(shape, pairs[:many])
            if many:
                rebuilt(shape, tuple((x, row[0]) for x, row in pairs[:many]))
            alike_holds(shape, tuple(range(many)), alike_on(shape, tuple(range(many))))

    def test_what_is_handed_in_is_unchanged(self):
        shape = (11, 2, 3, 1)
        pairs = [[0, [3, 4, 5]], [1, [1, 7, 7]]]
        told = read_back(shape, pairs)
        self.assertEqual(told, ((3, 4, 5), (4, 1, 2), (5, 2, 0)))
        self.assertEqual(pairs, [[0, [3, 4, 5]], [1, [1, 7, 7]]])
        pairs[0][1][0] = 9
        self.assertEqual(told, ((3, 4, 5), (4, 1, 2), (5, 2, 0)))


class AlikeTest(unittest.TestCase):
    def test_none_to_k_less_1_houses(self):
        for shape in shapes_by(*SOME_PRIMES):
            p, k, d, l = shape
            for many in range(k):
                for xs in some_xs(p, many):
                    told = alike_on(shape, xs)
                    self.assertTrue(own_alike(shape, xs, told), (shape, xs, told))
                    self.assertIs(alike_holds(shape, xs, told), True)
                    self.assertEqual(alike_on(shape, xs), told)

    def test_where_there_are_k_less_1_each_other_house_keeps_something(self):
        for shape in shapes_by(11, 13, 211):
            p, k, d, l = shape
            for xs in some_xs(p, k - 1):
                told = alike_on(shape, xs)
                for x in range(p):
                    self.assertEqual(any(own_keeps(shape, told, x)), x not in xs, (shape, xs, x))

    def test_two_tables_lie_alike(self):
        for shape in shapes_by(17):
            p, k, d, l = shape
            table = thrown_table(dice_of("two", shape), shape)
            for xs in small_groups((0, 2, 5, 16), k - 1):
                other = added(shape, table, alike_on(shape, xs))
                self.assertNotEqual(table, other)
                self.assertTrue(own_is_table(shape, other))
                for x in xs:
                    self.assertEqual(keeps_of(shape, table, x), keeps_of(shape, other, x))


class AlikeHoldsTest(unittest.TestCase):
    def vanishing(self, dice, p, xs, length):
        """A row of so many rests that is worth 0 at all xs."""
        row = list(thrown_row(dice, p, length - len(xs)))
        for x in xs:
            row = [(low - x * high) % p for low, high in zip([0] + row, row + [0])]
        return row

    def made_otherwise(self, dice, shape, xs):
        """Such a table: the products of two rows that are worth 0 at all xs, one of them with 0 behind k, both ways."""
        p, k, d, l = shape
        one = self.vanishing(dice, p, xs, k) + [0] * (d - k)
        other = self.vanishing(dice, p, xs, d)
        return tuple(tuple((one[r] * other[c] + one[c] * other[r]) % p for c in range(d)) for r in range(d))

    def test_ones_that_alike_on_would_not_tell(self):
        found = 0
        for shape in shapes_by(11, 211):
            p, k, d, l = shape
            for many in range(k):
                for xs in some_xs(p, many):
                    thing = self.made_otherwise(dice_of("made", shape, xs), shape, xs)
                    right = own_alike(shape, xs, thing)
                    found += right and thing != alike_on(shape, xs)
                    self.assertIs(alike_holds(shape, xs, thing), right, (shape, xs, thing))
        self.assertGreater(found, 300)

    def test_all_tables_of_a_small_shape(self):
        for shape, xs in (((11, 2, 2, 0), ()), ((11, 2, 2, 1), (0,)), ((11, 2, 2, 1), (10,)), ((11, 2, 2, 0), (4,))):
            for a, b, c in all_rows(11, 3):
                thing = ((a, b), (b, c))
                self.assertIs(alike_holds(shape, xs, thing), own_alike(shape, xs, thing))

    def test_multiples_and_noughts(self):
        for shape in shapes_by(13):
            p, k, d, l = shape
            for xs in some_xs(p, k - 1):
                told = alike_on(shape, xs)
                for times in range(p):
                    thing = tuple(tuple(rest * times % p for rest in row) for row in told)
                    self.assertIs(alike_holds(shape, xs, thing), times > 0)
            self.assertIs(alike_holds(shape, (), noughts_table(shape)), False)

    def test_a_rest_otherwise(self):
        for shape in shapes_by(11):
            p, k, d, l = shape
            for xs in some_xs(p, k - 1):
                told = alike_on(shape, xs)
                for row, column in itertools.product(range(d), repeat=2):
                    for new in ((told[row][column] + 1) % p, p, -1, told[row][column] + p, True, False, None):
                        changed = with_part(told, row, with_part(told[row], column, new))
                        self.assertIs(alike_holds(shape, xs, changed), own_alike(shape, xs, changed))
                        across = with_part(changed, column, with_part(changed[column], row, new))
                        self.assertIs(alike_holds(shape, xs, across), own_alike(shape, xs, across))

    def test_of_one_house_more(self):
        for shape in shapes_by(11):
            p, k, d, l = shape
            xs = tuple(range(k - 1))
            told = alike_on(shape, xs)
            for x in range(k - 1, p):
                self.assertIs(alike_holds(shape, xs + (x,), told), False)
                self.assertIs(alike_holds(shape, (x,), told), False)

    def test_any_tables(self):
        for shape in shapes_by(11):
            p, k, d, l = shape
            table = own_table(shape, *thrown_thing(dice_of("thrown", shape), shape))
            for xs in small_groups((0, 1, 10), k - 1):
                self.assertIs(alike_holds(shape, xs, table), own_alike(shape, xs, table))

    def test_whatever_it_is(self):
        for shape in shapes_by(11):
            xs = tuple(range(shape[1] - 1))
            told = alike_on(shape, xs)
            things = plain_things() + list(spoiled(told)) + [[list(row) for row in told]]
            for at, row in enumerate(told):
                things += [with_part(told, at, odd) for odd in list(spoiled(row)) + plain_things()]
            for thing in things:
                before = copy.deepcopy(thing)
                self.assertIs(alike_holds(shape, xs, thing), own_alike(shape, xs, thing))
                self.assertEqual(thing, before)


if __name__ == "__main__":
    unittest.main()
