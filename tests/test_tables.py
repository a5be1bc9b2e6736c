"""Promise [8], and [3] as far as it speaks of toldpieces.tables."""

import copy
import itertools
import unittest

from tests.odd_things import plain_things, spoiled, with_part
from tests.sample_rows import SOME_PRIMES, all_rows, dice_of
from tests.sample_things import own_is_table, own_places, own_table, shapes_by, thrown_thing
from toldpieces.shapes import is_thing, places_of
from toldpieces.tables import is_table, table_of, thing_of


def with_rest(table, row, column, rest):
    """The table with another rest at one place alone."""
    return with_part(table, row, with_part(table[row], column, rest))


class TableOfTest(unittest.TestCase):
    def test_all_shapes_by_several_primes(self):
        for shape in shapes_by(*SOME_PRIMES):
            for turn in range(3):
                secrets, dice = thrown_thing(dice_of("table", shape, turn), shape)
                self.check(shape, secrets, dice)

    def check(self, shape, secrets, dice):
        p, k, d, l = shape
        table = table_of(shape, secrets, dice)
        self.assertEqual([type(table)] + [type(row) for row in table], [tuple] * (d + 1))
        self.assertEqual([len(row) for row in table], [d] * d)
        left = {True: list(dice), False: list(secrets)}
        for row, column in places_of(shape):
            rest = left[row < l].pop(0)
            self.assertEqual((table[row][column], table[column][row]), (rest, rest), (shape, row, column))
        self.assertEqual(left, {True: [], False: []})
        for row, column in itertools.product(range(k, d), repeat=2):
            self.assertEqual(table[row][column], 0)
        self.assertEqual(table, own_table(shape, secrets, dice))

    def test_each_place_alone(self):
        for shape in shapes_by(11):
            secret_places, dice_places = own_places(shape)
            for at, place in enumerate(secret_places + dice_places):
                rests = tuple(int(at == other) * 7 for other in range(len(secret_places + dice_places)))
                table = table_of(shape, rests[:len(secret_places)], rests[len(secret_places):])
                found = {(row, column) for row in range(shape[2]) for column in range(shape[2]) if table[row][column]}
                self.assertEqual(found, {place, place[::-1]})

    def test_examples(self):
        self.assertEqual(table_of((11, 2, 3, 1), (1, 2), (3, 4, 5)), ((3, 4, 5), (4, 1, 2), (5, 2, 0)))
        self.assertEqual(table_of((11, 1, 1, 0), (9,), ()), ((9,),))
        self.assertEqual(table_of((11, 1, 3, 0), (9, 8, 7), ()), ((9, 8, 7), (8, 0, 0), (7, 0, 0)))
        self.assertEqual(table_of((11, 2, 2, 1), (10,), (0, 1)), ((0, 1), (1, 10)))

    def test_thing_of_leads_back(self):
        for shape in shapes_by(*SOME_PRIMES):
            for turn in range(3):
                thing = thrown_thing(dice_of("back", shape, turn), shape)
                told = thing_of(shape, table_of(shape, *thing))
                self.assertEqual(told, thing)
                self.assertTrue(is_thing(shape, told))
                self.assertEqual(told, thing_of(shape, own_table(shape, *thing)))


class IsTableTest(unittest.TestCase):
    def test_the_tables_of_all_shapes(self):
        for shape in shapes_by(*SOME_PRIMES):
            for turn in range(3):
                thing = thrown_thing(dice_of("is", shape, turn), shape)
                self.assertIs(is_table(shape, own_table(shape, *thing)), True)
                self.assertIs(is_table(shape, table_of(shape, *thing)), True)

    def test_all_tuples_of_two_rows_by_11(self):
        for k, l in ((1, 0), (2, 0), (2, 1)):
            for a, b, c, e in all_rows(11, 4):
                right = b == c and (k == 2 or e == 0)
                self.assertIs(is_table((11, k, 2, l), ((a, b), (c, e))), right)

    def test_a_rest_otherwise_at_one_place_alone(self):
        for shape in shapes_by(11, 211):
            p, k, d, l = shape
            table = own_table(shape, *thrown_thing(dice_of("one", shape), shape))
            for row, column in itertools.product(range(d), repeat=2):
                rest = table[row][column]
                for new in ((rest + 1) % p, (rest - 1) % p):
                    right = row == column < k
                    self.assertIs(is_table(shape, with_rest(table, row, column, new)), right, (shape, row, column))
                for new in (p, rest + p, -1, rest - p, True, False, None, str(rest), (rest,), [rest], 10 ** 29):
                    self.assertIs(is_table(shape, with_rest(table, row, column, new)), False)
                    across = with_rest(with_rest(table, row, column, new), column, row, new)
                    self.assertIs(is_table(shape, across), False)

    def test_one_where_noughts_must_stand(self):
        for shape in shapes_by(13):
            p, k, d, l = shape
            table = own_table(shape, *thrown_thing(dice_of("noughts", shape), shape))
            for row, column in itertools.product(range(k, d), repeat=2):
                thing = with_rest(with_rest(table, row, column, 1), column, row, 1)
                self.assertIs(is_table(shape, thing), False)

    def test_rows_longer_shorter_and_exchanged(self):
        for shape in shapes_by(11):
            table = own_table(shape, *thrown_thing(dice_of("rows", shape), shape))
            things = [table + (table[0],), table[1:], table[:-1], table + ((),), ()]
            for at, row in enumerate(table):
                things += [with_part(table, at, row + (0,)), with_part(table, at, row[:-1]), with_part(table, at, ())]
            things += [tuple(row + (0,) for row in table), tuple(row[1:] for row in table)]
            things += [tuple(mixed) for mixed in itertools.permutations(table)]
            for thing in things:
                self.assertIs(is_table(shape, thing), own_is_table(shape, thing), (shape, thing))

    def test_lists_and_other_kinds(self):
        for shape in shapes_by(11):
            table = own_table(shape, *thrown_thing(dice_of("kinds", shape), shape))
            things = list(spoiled(table)) + [[list(row) for row in table], tuple(list(row) for row in table)]
            for at, row in enumerate(table):
                things += [with_part(table, at, odd) for odd in spoiled(row)]
            for thing in things:
                self.assertIs(is_table(shape, thing), False, (shape, thing))

    def test_a_table_of_another_shape(self):
        tables = {shape: own_table(shape, *thrown_thing(dice_of("other", shape), shape)) for shape in shapes_by(11, 17)}
        found = 0
        for shape, other in itertools.product(tables, repeat=2):
            right = own_is_table(other, tables[shape])
            found += right
            self.assertIs(is_table(other, tables[shape]), right, (shape, other))
        self.assertLess(found, len(tables) ** 2 // 2)

    def test_whatever_it_is(self):
        for shape in shapes_by(11):
            table = own_table(shape, *thrown_thing(dice_of("odd", shape), shape))
            for thing in plain_things():
                before = copy.deepcopy(thing)
                self.assertIs(is_table(shape, thing), own_is_table(shape, thing))
                for at in range(len(table)):
                    changed = with_part(table, at, thing)
                    self.assertIs(is_table(shape, changed), own_is_table(shape, changed))
                self.assertEqual(thing, before)

    def test_the_same_question_gets_the_same_answer(self):
        for _ in range(3):
            self.assertIs(is_table((11, 1, 2, 0), ((1, 2), (2, 0))), True)
            self.assertIs(is_table((11, 1, 2, 0), ((1, 2), (2, 1))), False)


if __name__ == "__main__":
    unittest.main()
