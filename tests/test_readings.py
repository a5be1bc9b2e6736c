"""Promise [13] (read_right, two_read, two_read_hold), and [2] and [3] as far as they speak of toldpieces.readings."""

import copy
import itertools
import unittest

from tests.odd_things import plain_things, spoiled, with_part
from tests.sample_rows import SOME_PRIMES, all_rows, dice_of, is_tuple_of_rests, thrown_row
from tests.sample_things import (
    added, noughts_table, own_is_table, own_keeps, shapes_by, small_groups, some_xs, thrown_table,
)
from toldpieces.houses import alike_on
from toldpieces.readings import read_right, two_read, two_read_hold


def keeping_others(shape, table, xs, rows):
    return tuple(x for x, row in zip(xs, rows, strict=True) if own_keeps(shape, table, x) != row)


def another_row(dice, p, row):
    """Another row than this, in one rest or in several."""
    while True:
        other = tuple(dice.randrange(p) if dice.randrange(2) else rest for rest in row)
        if other != row:
            return other


def is_two(shape, xs, b, thing):
    """Whether it is two tables and rows as told in [13]."""
    if type(thing) is not tuple or len(thing) != 4 or type(thing[0]) is not str or thing[0] != "two":
        return False
    one, other, rows = thing[1:]
    if not own_is_table(shape, one) or not own_is_table(shape, other) or one == other:
        return False
    if type(rows) is not tuple or len(rows) != len(xs):
        return False
    if not all(is_tuple_of_rests(shape[0], shape[2], row) for row in rows):
        return False
    return all(len(keeping_others(shape, table, xs, rows)) <= b for table in (one, other))


class ReadRightTest(unittest.TestCase):
    def test_all_sets_of_at_most_b_liars(self):
        for shape in shapes_by(11, 211):
            p, k, d, l = shape
            for length in range(k, 9):
                xs = tuple(sorted(dice_of("xs", shape, length).sample(range(p), length)))
                self.check_all_liars(shape, xs)

    def test_houses_0_and_p_less_1(self):
        for shape in shapes_by(13):
            p, k, d, l = shape
            for xs in some_xs(p, k + 2):
                self.check_all_liars(shape, xs)

    def check_all_liars(self, shape, xs):
        p, k, d, l = shape
        dice = dice_of("right", shape, xs)
        table = thrown_table(dice, shape)
        for liars in small_groups(xs, (len(xs) - k) // 2):
            rows = [own_keeps(shape, table, x) for x in xs]
            rows = [another_row(dice, p, row) if x in liars else row for x, row in zip(xs, rows)]
            told = read_right(shape, tuple(zip(xs, rows)))
            self.assertEqual(told, (table, liars), (shape, xs, liars))
            self.assertEqual([type(part) for part in told], [tuple, tuple])

    def test_liars_that_agree_on_another_table(self):
        for shape in shapes_by(11):
            p, k, d, l = shape
            dice = dice_of("agree", shape)
            xs = (0, 1, 2, 4, 5, 7, 9, 10)
            table = thrown_table(dice, shape)
            for liars in small_groups(xs, (8 - k) // 2):
                other = added(shape, table, alike_on(shape, tuple(x for x in xs if x not in liars)[:k - 1]))
                rows = tuple(own_keeps(shape, other if x in liars else table, x) for x in xs)
                self.assertEqual(read_right(shape, tuple(zip(xs, rows))), (table, liars))

    def test_of_just_k_there_are_no_liars(self):
        found = {True: 0, False: 0}
        for shape in shapes_by(*SOME_PRIMES):
            p, k, d, l = shape
            for xs in some_xs(p, k):
                dice = dice_of("just", shape, xs)
                table = thrown_table(dice, shape)
                rows = [own_keeps(shape, table, x) for x in xs]
                self.assertEqual(read_right(shape, tuple(zip(xs, rows))), (table, ()))
                rows[-1] = another_row(dice, p, rows[-1])
                told = read_right(shape, tuple(zip(xs, rows)))
                found[told is None] += 1
                if told is not None:
                    self.assertNotEqual(told[0], table)
                    self.assertEqual(keeping_others(shape, told[0], xs, rows), told[1])
        self.assertGreater(min(found.values()), 50)

    def test_none_all_tables_of_a_small_shape_gone_through(self):
        shape = (11, 2, 2, 1)
        tables = [((a, b), (b, c)) for a, b, c in all_rows(11, 3)]
        keeps = {(table, x): own_keeps(shape, table, x) for table in tables for x in range(11)}
        found = {True: 0, False: 0}
        for length in range(2, 9):
            for turn in range(8):
                dice = dice_of("none", length, turn)
                xs = tuple(sorted(dice.sample(range(11), length)))
                table = dice.choice(tables)
                lying = dice.sample(xs, (length - 2) // 2 + turn % 2)
                rows = [another_row(dice, 11, keeps[table, x]) if x in lying else keeps[table, x] for x in xs]
                fits = []
                for one in tables:
                    others = tuple(x for x, row in zip(xs, rows) if keeps[one, x] != row)
                    if len(others) <= (length - 2) // 2:
                        fits.append((one, others))
                self.assertLessEqual(len(fits), 1)
                told = read_right(shape, tuple(zip(xs, rows)))
                self.assertEqual(told, fits[0] if fits else None)
                found[told is None] += 1
        self.assertGreater(min(found.values()), 10)

    def test_any_rows(self):
        for shape in shapes_by(11):
            p, k, d, l = shape
            for length in range(k, 9):
                dice = dice_of("any", shape, length)
                xs = tuple(sorted(dice.sample(range(p), length)))
                rows = tuple(thrown_row(dice, p, d) for _ in xs)
                told = read_right(shape, tuple(zip(xs, rows)))
                if told is not None:
                    self.assertTrue(own_is_table(shape, told[0]))
                    self.assertLessEqual(len(told[1]), (length - k) // 2)
                    self.assertEqual(told[1], keeping_others(shape, told[0], xs, rows))

    def test_what_is_handed_in_is_unchanged_and_nothing_is_raised_beyond_the_limits(self):
        shape = (11, 2, 3, 1)
        table = ((3, 4, 5), (4, 1, 2), (5, 2, 0))
        pairs = [(x, own_keeps(shape, table, x)) for x in range(10)]
        before = copy.deepcopy(pairs)
        self.assertEqual(read_right(shape, pairs), (table, ()))
        self.assertEqual(pairs, before)
        for many in range(2):
            self.assertIsNone(read_right(shape, pairs[:many]))


def all_asked(shape):
    """(xs, b) for all b."""
    p, k, d, l = shape
    for b in range(1, 5):
        if k + 2 * b - 1 <= 8:
            for xs in some_xs(p, k + 2 * b - 1):
                yield xs, b


class TwoReadTest(unittest.TestCase):
    def test_two_tables_and_rows_as_told(self):
        for shape in shapes_by(*SOME_PRIMES):
            for xs, b in all_asked(shape):
                told = two_read(shape, xs, b)
                self.assertTrue(is_two(shape, xs, b, told), (shape, xs, b, told))
                self.assertIs(two_read_hold(shape, xs, b, told), True)
                self.assertEqual(two_read(shape, xs, b), told)

    def test_so_few_tell_nobody_who_lied(self):
        # With one house more the table is told, though b lie.
        for shape in shapes_by(11):
            for xs, b in all_asked(shape):
                word, one, other, rows = two_read(shape, xs, b)
                liars = keeping_others(shape, one, xs, rows), keeping_others(shape, other, xs, rows)
                self.assertNotEqual(*liars)
                more = [x for x in range(11) if x not in xs][0]
                for table, lied in zip((one, other), liars):
                    pairs = sorted([*zip(xs, rows), (more, own_keeps(shape, table, more))])
                    self.assertEqual(read_right(shape, tuple(pairs)), (table, lied))

    def test_somewhat_beyond_the_limits_nothing_is_raised(self):
        for shape in shapes_by(11):
            for many in range(11):
                for b in range(5):
                    thing = two_read(shape, tuple(range(many)), b)
                    two_read_hold(shape, tuple(range(many)), b, thing)


class TwoReadHoldTest(unittest.TestCase):
    def made_otherwise(self, dice, shape, xs, b):
        """Such a tuple, of any one table, with any k - 1 houses that keep the same of both, and any lots."""
        p, k, d, l = shape
        one = thrown_table(dice, shape)
        mixed = dice.sample(xs, len(xs))
        apart = alike_on(shape, tuple(sorted(mixed[:k - 1])))
        times = dice.randrange(1, p)
        other = added(shape, one, tuple(tuple(rest * times % p for rest in row) for row in apart))
        rights = mixed[k - 1:k - 1 + b]
        return "two", one, other, tuple(own_keeps(shape, one if x in rights else other, x) for x in xs)

    def test_ones_made_otherwise(self):
        for shape in shapes_by(11, 211):
            for xs, b in all_asked(shape):
                thing = self.made_otherwise(dice_of("made", shape, xs, b), shape, xs, b)
                self.assertTrue(is_two(shape, xs, b, thing))
                self.assertIs(two_read_hold(shape, xs, b, thing), True)
                self.assertIs(two_read_hold(shape, xs, b, ("two", thing[2], thing[1], thing[3])), True)

    def test_a_rest_otherwise(self):
        for shape in shapes_by(11):
            p, k, d, l = shape
            xs = tuple(range(k)) + (10,)
            thing = self.made_otherwise(dice_of("rest", shape), shape, xs, 1)
            for which in (1, 2, 3):
                for row, column in itertools.product(range(len(thing[which])), range(d)):
                    rest = thing[which][row][column]
                    for new in ((rest + 1) % p, p, -1, rest + p, rest - p, True, False, None):
                        rows = with_part(thing[which], row, with_part(thing[which][row], column, new))
                        changed = with_part(thing, which, rows)
                        self.assertIs(two_read_hold(shape, xs, 1, changed), is_two(shape, xs, 1, changed), changed)

    def test_one_row_otherwise_too_many(self):
        # Both tables misfit at b already, and one of them at least fitted where the row is otherwise now.
        for shape in shapes_by(11):
            for xs, b in all_asked(shape):
                dice = dice_of("too many", shape, xs)
                thing = self.made_otherwise(dice, shape, xs, b)
                for at, row in enumerate(thing[3]):
                    changed = with_part(thing, 3, with_part(thing[3], at, another_row(dice, 11, row)))
                    self.assertIs(two_read_hold(shape, xs, b, changed), is_two(shape, xs, b, changed))

    def test_tables_alike(self):
        for shape in shapes_by(11):
            for xs, b in all_asked(shape):
                table = thrown_table(dice_of("alike", shape), shape)
                rows = tuple(own_keeps(shape, table, x) for x in xs)
                self.assertIs(two_read_hold(shape, xs, b, ("two", table, table, rows)), False)
                noughts = noughts_table(shape)
                rows = ((0,) * shape[2],) * len(xs)
                self.assertIs(two_read_hold(shape, xs, b, ("two", noughts, noughts, rows)), False)

    def test_more_or_fewer(self):
        for shape in shapes_by(11):
            for xs, b in all_asked(shape):
                thing = two_read(shape, xs, b)
                rows = thing[3]
                for other in (rows[1:], rows[:-1], rows + rows[:1], (), tuple(row + (0,) for row in rows),
                              tuple(row[:-1] for row in rows), tuple(list(row) for row in rows), list(rows)):
                    self.assertIs(two_read_hold(shape, xs, b, with_part(thing, 3, other)), False)
                for which in (1, 2):
                    table = thing[which]
                    for other in (table + (table[0],), table[1:], tuple(row + (0,) for row in table), list(table)):
                        self.assertIs(two_read_hold(shape, xs, b, with_part(thing, which, other)), False)

    def test_of_other_xs_and_another_b(self):
        for shape in shapes_by(11):
            for xs, b in all_asked(shape):
                thing = self.made_otherwise(dice_of("other", shape, xs), shape, xs, b)
                for others, many in ((xs[1:], b), (xs, b + 1), (xs, b - 1), (tuple((x + 3) % 11 for x in xs), b)):
                    right = is_two(shape, others, many, thing)
                    self.assertIs(two_read_hold(shape, others, many, thing), right)

    def test_the_word_otherwise(self):
        thing = two_read((11, 2, 3, 1), (0, 1, 2), 1)
        for word in ("", "Two", "two ", "twos", "one", None, 2, True, ("two",), ["two"], {"two": 0}):
            self.assertIs(two_read_hold((11, 2, 3, 1), (0, 1, 2), 1, with_part(thing, 0, word)), False, word)

    def test_whatever_it_is(self):
        shape, xs = (11, 2, 2, 1), (0, 3, 10)
        right = two_read(shape, xs, 1)
        things = plain_things() + [thing for thing in spoiled(right) if thing != right]
        for which in (1, 2, 3):
            parts = list(spoiled(right[which])) + plain_things()
            for at, row in enumerate(right[which]):
                parts += [with_part(right[which], at, odd) for odd in list(spoiled(row)) + plain_things()]
            things += [with_part(right, which, part) for part in parts]
        for thing in things:
            before = copy.deepcopy(thing)
            self.assertIs(two_read_hold(shape, xs, 1, thing), is_two(shape, xs, 1, thing), repr(thing)[:99])
            self.assertEqual(thing, before)


if __name__ == "__main__":
    unittest.main()
