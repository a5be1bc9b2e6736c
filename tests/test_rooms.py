"""Promise [6], toldpieces.rooms, and [3] as far as it speaks of it."""

import itertools
import unittest

from tests.sample_rows import (
    SOME_PRIMES, all_made, all_rows, dice_of, known_form, rooms_for_tests, rows_making, sum_of, thrown_row,
)
from toldpieces.rests import PRIMES
from toldpieces.rooms import room_of, within

ROOMS = list(rooms_for_tests())


def first_of(row):
    return [at for at, rest in enumerate(row) if rest][0]


def unit(n, at):
    return (0,) * at + (1,) + (0,) * (n - at - 1)


class FormTest(unittest.TestCase):
    def check_plain(self, p, n, form):
        self.assertIs(type(form), tuple)
        for row in form:
            self.assertIs(type(row), tuple)
            self.assertEqual(len(row), n)
            for rest in row:
                self.assertIs(type(rest), int)
                self.assertTrue(0 <= rest < p)
            self.assertTrue(any(row))
        places = [first_of(row) for row in form]
        self.assertEqual(places, sorted(set(places)))
        for at, row in enumerate(form):
            self.assertEqual([row[place] for place in places], list(unit(len(places), at)))


class RoomOfTest(FormTest):
    def test_no_rows_make_the_room_of_noughts(self):
        for p in PRIMES:
            for n in (1, 2, 60, 120):
                self.assertEqual(room_of(p, n, ()), ())

    def test_noughts(self):
        for p in SOME_PRIMES:
            for n in (1, 2, 60, 120):
                for many in (1, 2, 300):
                    self.assertEqual(room_of(p, n, ((0,) * n,) * many), ())

    def test_the_known_form_is_told(self):
        for p, n, form, rows in ROOMS:
            told = room_of(p, n, rows)
            self.check_plain(p, n, told)
            self.assertEqual(told, form, (p, n, len(form), len(rows)))

    def test_a_form_is_the_form_of_itself(self):
        for p, n, form, rows in ROOMS:
            self.assertEqual(room_of(p, n, form), form)
            self.assertEqual(room_of(p, n, form[::-1]), form)

    def test_another_order_each_so_many_times_and_sums_put_to_them(self):
        for p, n, form, rows in ROOMS:
            if len(rows) > 20:
                continue
            dice = dice_of("order", p, n, rows)
            for _ in range(3):
                others = list(rows)
                dice.shuffle(others)
                others = [sum_of(p, n, [row], [dice.randrange(1, p)]) for row in others]
                self.assertEqual(room_of(p, n, tuple(others)), form)
                for _ in range(3):
                    made = sum_of(p, n, rows, thrown_row(dice, p, len(rows)))
                    others.insert(dice.randrange(len(others) + 1), made)
                self.assertEqual(room_of(p, n, tuple(others)), form)

    def test_great_rooms_in_another_order(self):
        dice = dice_of("great")
        form = known_form(dice, 199, 120, 40)
        rows = rows_making(dice, 199, 120, form, 290)
        more = tuple(sum_of(199, 120, rows[at:at + 4], thrown_row(dice, 199, 4)) for at in range(10))
        self.assertEqual(room_of(199, 120, more + rows[::-1]), form)

    def test_all_single_rows_of_few_rests(self):
        for p, n in ((11, 1), (11, 2), (13, 2), (11, 3)):
            for row in all_rows(p, n):
                told = room_of(p, n, (row,))
                self.check_plain(p, n, told)
                if any(row):
                    self.assertEqual(len(told), 1)
                    self.assertEqual(sum_of(p, n, told, [row[first_of(row)]]), row)
                else:
                    self.assertEqual(told, ())

    def test_all_pairs_of_rows_of_two_rests(self):
        for one, other in itertools.product(all_rows(11, 2), repeat=2):
            told = room_of(11, 2, (one, other))
            if (one[0] * other[1] - one[1] * other[0]) % 11:
                self.assertEqual(told, ((1, 0), (0, 1)))
            else:
                self.assertEqual(told, room_of(11, 2, (one if any(one) else other,)))

    def test_all_rows_of_few_rests_gone_through(self):
        for p, n in ((11, 1), (13, 1), (11, 2), (13, 2), (11, 3), (13, 3)):
            for many in range(4):
                for seed in range(3):
                    dice = dice_of(p, n, many, seed)
                    rows = tuple(thrown_row(dice, p, n) for _ in range(many))
                    rows = rows[:2] + rows[:1] if seed == 2 else rows
                    made = all_made(p, n, rows)
                    told = room_of(p, n, rows)
                    self.check_plain(p, n, told)
                    self.assertEqual(all_made(p, n, told), made)
                    self.assertEqual(p ** len(told), len(made))
                    self.assertEqual({row for row in all_rows(p, n) if within(p, told, row)}, made)

    def test_all_primes(self):
        for p in PRIMES:
            dice = dice_of(p)
            for size in range(6):
                form = known_form(dice, p, 5, size)
                self.assertEqual(room_of(p, 5, rows_making(dice, p, 5, form, 9)), form)

    def test_examples(self):
        self.assertEqual(room_of(11, 3, ((0, 2, 4), (1, 1, 1))), ((1, 0, 10), (0, 1, 2)))
        self.assertEqual(room_of(11, 3, ((0, 0, 5),)), ((0, 0, 1),))
        self.assertEqual(room_of(13, 2, ((1, 0), (12, 0))), ((1, 0),))
        self.assertEqual(room_of(13, 2, ((7, 7), (0, 12))), ((1, 0), (0, 1)))

    def test_what_is_handed_in_is_unchanged_and_not_kept(self):
        rows = [[1, 1, 1], [0, 2, 4]]
        told = room_of(11, 3, rows)
        self.assertEqual(rows, [[1, 1, 1], [0, 2, 4]])
        rows[0][0] = 5
        rows.pop()
        self.assertEqual(told, ((1, 0, 10), (0, 1, 2)))

    def test_the_same_question_gets_the_same_answer(self):
        for p, n, form, rows in ROOMS[:40]:
            self.assertEqual([room_of(p, n, rows) for _ in range(3)], [form] * 3)

    def test_somewhat_beyond_the_limits_nothing_is_raised(self):
        dice = dice_of("beyond")
        form = known_form(dice, 11, 125, 10)
        self.assertEqual(room_of(11, 125, rows_making(dice, 11, 125, form, 12)), form)
        self.assertEqual(room_of(11, 2, ((1, 2), (2, 4)) * 160), ((1, 2),))
        self.assertEqual(room_of(11, 2, ((11, 13),)), ((0, 1),))
        self.assertEqual(room_of(11, 0, ((), ())), ())


class WithinTest(unittest.TestCase):
    def test_the_room_has_what_its_rows_make(self):
        for p, n, form, rows in ROOMS:
            dice = dice_of("within", p, n, len(form))
            self.assertIs(within(p, form, (0,) * n), True)
            for row in rows[:10] + form[:10]:
                self.assertIs(within(p, form, row), True)
            for _ in range(3):
                self.assertIs(within(p, form, sum_of(p, n, form, thrown_row(dice, p, len(form)))), True)

    def test_with_one_rest_otherwise_it_has_it_seldom(self):
        for p, n, form, rows in ROOMS:
            dice = dice_of("otherwise", p, n, len(form))
            row = sum_of(p, n, form, thrown_row(dice, p, len(form)))
            # The room has a row of one rest alone just where its form has that row.
            for at in dice.sample(range(n), min(n, 12)):
                otherwise = sum_of(p, n, [row, unit(n, at)], [1, dice.randrange(1, p)])
                self.assertIs(within(p, form, otherwise), unit(n, at) in form, (p, n, at))

    def test_the_room_of_no_rows_has_noughts_alone(self):
        for p in SOME_PRIMES:
            for n in (1, 2, 120):
                self.assertIs(within(p, (), (0,) * n), True)
                for at in {0, n // 2, n - 1}:
                    for rest in (1, p - 1):
                        self.assertIs(within(p, (), (0,) * at + (rest,) + (0,) * (n - at - 1)), False)

    def test_the_room_of_all_rows(self):
        for p in SOME_PRIMES:
            for n in (1, 2, 120):
                form = tuple(unit(n, at) for at in range(n))
                self.assertIs(within(p, form, thrown_row(dice_of(p, n), p, n)), True)

    def test_what_is_no_row_of_rests_is_in_no_room(self):
        form = ((1, 0, 10), (0, 1, 2))
        self.assertIs(within(11, form, (1, 1, 1)), True)
        for row in ((1, 1), (1, 1, 1, 0), (), (12, 1, 1), (1, 1, -10), (0, 11, 0)):
            self.assertIs(within(11, form, row), False, row)
        self.assertIs(within(11, (), (11, 0)), False)

    def test_what_is_handed_in_is_unchanged(self):
        room = [[1, 0, 10], [0, 1, 2]]
        for _ in range(2):
            self.assertIs(within(11, room, (3, 4, 5)), True)
            self.assertIs(within(11, room, (3, 4, 6)), False)
        self.assertEqual(room, [[1, 0, 10], [0, 1, 2]])


if __name__ == "__main__":
    unittest.main()
