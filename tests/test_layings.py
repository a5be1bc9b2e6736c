"""Promises [14] and [15], and [2] and [3] as far as they speak of toldpieces.layings."""

import copy
import itertools
import unittest

from tests.odd_things import plain_things, spoiled, with_part
from tests.sample_rows import SOME_PRIMES, dice_of, is_tuple_of_rests, product_of, sum_of, thrown_row
from tests.sample_things import own_keeps, own_places, own_size, own_table, own_tells, shapes_by, some_xs, thrown_thing
from toldpieces.layings import bound_of, chain_of, is_laying, laying_fault, own_laying
from toldpieces.rests import PRIMES


def own_is_laying(thing):
    if type(thing) is not tuple or len(thing) != 4:
        return False
    p, many, keeps, tells = thing
    if type(p) is not int or p not in PRIMES or type(many) is not int or many not in range(1, 25):
        return False
    if type(keeps) is not tuple or len(keeps) not in range(2, 9) or type(keeps[0]) is not tuple:
        return False
    d = len(keeps[0])
    if d not in range(1, 6) or d >= len(keeps):
        return False
    if type(tells) is not tuple or len(tells) != len(keeps):
        return False
    for parts, length in ((keeps, d), (tells, len(keeps))):
        for part in parts:
            if type(part) is not tuple or len(part) != length:
                return False
            if not all(is_tuple_of_rests(p, many, row) for row in part):
                return False
    return True


def own_fault(laying, k):
    """The first fault, by the sizes of rooms alone."""
    p, many, keeps, tells = laying
    houses = range(len(keeps))
    d = len(keeps[0])

    def made(rows, wanted):
        return own_size(p, rows) == own_size(p, [*rows, *wanted])

    for f, h in itertools.product(houses, repeat=2):
        if f != h and not made(keeps[h], [tells[f][h]]):
            return "told", f, h
    for f in houses:
        for helpers in itertools.combinations([h for h in houses if h != f], d):
            if not made([tells[f][h] for h in helpers], keeps[f]):
                return "rebuild", f, helpers
    for some in itertools.combinations(houses, k):
        if own_size(p, [row for h in some for row in keeps[h]]) < many:
            return "read", some
    return None


def thrown_laying(dice, p, many, houses, d):
    keeps = tuple(tuple(thrown_row(dice, p, many) for _ in range(d)) for _ in range(houses))
    return p, many, keeps, tuple(tuple(thrown_row(dice, p, many) for _ in range(houses)) for _ in range(houses))


def thrown_telling(dice, p, many, houses, d):
    """A laying in which all that is told is in the room of what the teller keeps."""
    keeps = thrown_laying(dice, p, many, houses, d)[2]
    tells = tuple(tuple(sum_of(p, many, house, thrown_row(dice, p, d)) for house in keeps) for _ in range(houses))
    return p, many, keeps, tells


def mixed_laying(dice, laying):
    """The same laying, of other hidden numbers: sums of the old ones; and what a house keeps mixed, too."""
    p, many, keeps, tells = laying
    # Each new number is an old one, so many times, and sums of later ones: so the old ones can be had back.
    mix = [tuple([0] * at + [dice.randrange(1, p)] + [dice.randrange(p) for _ in range(at + 1, many)])
           for at in range(many)]
    dice.shuffle(mix)

    def other(row):
        return sum_of(p, many, mix, row)

    def stirred(rows):
        rows = [sum_of(p, many, rows[at:], [dice.randrange(1, p), *thrown_row(dice, p, len(rows) - at - 1)])
                for at in range(len(rows))]
        dice.shuffle(rows)
        return rows

    keeps = tuple(tuple(other(row) for row in stirred(house)) for house in keeps)
    return p, many, keeps, tuple(tuple(other(row) for row in told) for told in tells)


def with_kept(laying, h, at, row):
    keeps = laying[2]
    return with_part(laying, 2, with_part(keeps, h, with_part(keeps[h], at, row)))


def with_told(laying, f, h, row):
    tells = laying[3]
    return with_part(laying, 3, with_part(tells, f, with_part(tells[f], h, row)))


def own_layings(p, many):
    """(shape, laying) of all shapes that d + 1 to so many houses allow."""
    for shape in shapes_by(p):
        for houses in range(shape[2] + 1, many + 1):
            for xs in some_xs(p, houses):
                yield shape, own_laying(shape, xs)
                break


class IsLayingTest(unittest.TestCase):
    def test_own_ones_and_any(self):
        for shape, laying in own_layings(11, 8):
            self.assertIs(is_laying(laying), True)
        for p in PRIMES:
            for houses in range(2, 9):
                for d in range(1, min(5, houses - 1) + 1):
                    many = 1 + (p + houses + d) % 24
                    laying = thrown_laying(dice_of(p, houses, d), p, many, houses, d)
                    self.assertTrue(own_is_laying(laying))
                    self.assertIs(is_laying(laying), True)

    def test_too_few_or_too_many(self):
        for houses, d, many in itertools.product(range(0, 11), range(0, 8), (0, 1, 24, 25)):
            laying = thrown_laying(dice_of(houses, d, many), 11, many, houses, d)
            right = 2 <= houses <= 8 and 1 <= d <= 5 and d < houses and 1 <= many <= 24
            self.assertIs(is_laying(laying), right, (houses, d, many))

    def small(self):
        return thrown_laying(dice_of("small"), 11, 2, 3, 2)

    def test_p_and_many(self):
        laying = self.small()
        for p in (*range(-3, 215), 10 ** 29, True, None, "11", (11,)):
            thing = with_part(laying, 0, p)
            self.assertIs(is_laying(thing), own_is_laying(thing), p)
        for many in (*range(-1, 26), 10 ** 29, True, False, None, "2", (2,)):
            self.assertIs(is_laying(with_part(laying, 1, many)), many == 2 and type(many) is int, many)
        one = thrown_laying(dice_of("one"), 11, 1, 2, 1)
        self.assertIs(is_laying(one), True)
        self.assertIs(is_laying(with_part(one, 1, True)), False)

    def changes(self, laying):
        """The laying with each of its parts otherwise, at any depth."""
        yield from spoiled(laying)
        for which in (2, 3):
            for part in [*spoiled(laying[which]), *plain_things()]:
                yield with_part(laying, which, part)
            for at, house in enumerate(laying[which]):
                for part in [*spoiled(house), *plain_things()]:
                    yield with_part(laying, which, with_part(laying[which], at, part))
                for place, row in enumerate(house):
                    rests = [with_part(row, 0, rest) for rest in (11, -1, 10, True, False, 10 ** 29, row[0] - 11)]
                    for part in [*spoiled(row), *plain_things(), *rests]:
                        changed = with_part(house, place, part)
                        yield with_part(laying, which, with_part(laying[which], at, changed))

    def test_a_part_otherwise_at_any_depth(self):
        found = {True: 0, False: 0}
        for laying in (self.small(), thrown_laying(dice_of("two"), 11, 1, 2, 1),
                       own_laying((11, 2, 3, 1), (0, 1, 2, 5))):
            for thing in self.changes(laying):
                right = own_is_laying(thing)
                found[right] += 1
                self.assertIs(is_laying(thing), right, repr(thing)[:300])
        self.assertGreater(found[True], 10)
        self.assertGreater(found[False], 1000)

    def test_unlike_d_and_as_many_numbers_as_houses(self):
        laying = self.small()
        p, many, keeps, tells = laying
        row = (1, 2)
        for at in range(3):
            self.assertIs(is_laying(with_part(laying, 2, with_part(keeps, at, keeps[at] + (row,)))), False)
            self.assertIs(is_laying(with_part(laying, 2, with_part(keeps, at, keeps[at][:1]))), False)
            self.assertIs(is_laying(with_part(laying, 2, with_part(keeps, at, ()))), False)
        self.assertIs(is_laying(with_part(laying, 2, tuple(house + (row,) for house in keeps))), False)
        self.assertIs(is_laying(with_part(laying, 2, tuple(house[:1] for house in keeps))), True)
        self.assertIs(is_laying(with_part(laying, 2, ((),) * 3)), False)

    def test_houses_more_or_fewer_on_one_side(self):
        p, many, keeps, tells = laying = thrown_laying(dice_of("side"), 11, 2, 4, 2)
        for thing in ((p, many, keeps[1:], tells), (p, many, keeps + keeps[:1], tells), (p, many, keeps, tells[1:]),
                      (p, many, keeps, tells + tells[:1]), (p, many, keeps, tuple(told[1:] for told in tells)),
                      (p, many, keeps, tuple(told + told[:1] for told in tells)), laying[:3], laying + ((),),
                      list(laying), (laying,), (p, many, list(keeps), tells), (p, many, keeps, list(tells)),
                      (p, many, tells, keeps)):
            self.assertIs(is_laying(thing), False)
        self.assertIs(is_laying((p, many, keeps[1:], tuple(told[1:] for told in tells[1:]))), True)

    def test_whatever_it_is(self):
        for thing in plain_things() + [self.small()[2], own_laying((11, 1, 1, 0), (0, 1))[3]]:
            before = copy.deepcopy(thing)
            self.assertIs(is_laying(thing), False, repr(thing)[:60])
            self.assertEqual(thing, before)


class FaultTest(unittest.TestCase):
    def check(self, laying, k):
        told = laying_fault(laying, k)
        self.assertEqual(told, own_fault(laying, k), (laying, k))
        return told

    def test_own_ones_are_right(self):
        for shape, laying in own_layings(11, 7):
            p, k, d, l = shape
            for many in range(1, d + 1):
                wanted = None if many >= k else ("read", tuple(range(many)))
                self.assertEqual(laying_fault(laying, many), wanted)
        for p in SOME_PRIMES:
            for shape in ((p, 5, 5, 2), (p, 2, 5, 1), (p, 3, 3, 0)):
                for xs in some_xs(p, 8):
                    self.assertIsNone(laying_fault(own_laying(shape, xs), shape[1]))

    def test_right_ones_that_are_mixed(self):
        for shape, laying in own_layings(13, 6):
            if shape[3] == 0:
                mixed = mixed_laying(dice_of("mixed", shape), laying)
                self.assertTrue(own_is_laying(mixed))
                for k in range(1, shape[2] + 1):
                    self.assertEqual(laying_fault(mixed, k), laying_fault(laying, k))

    def test_bent_at_one_row_that_is_told(self):
        found = set()
        for shape, laying in own_layings(11, 5):
            p, k, d, l = shape
            if l:
                continue
            dice = dice_of("told", shape)
            for f, h in itertools.product(range(len(laying[2])), repeat=2):
                row = laying[3][f][h]
                bent = tuple((rest + (at == dice.randrange(len(row)))) % p for at, rest in enumerate(row))
                inside = sum_of(p, len(row), laying[2][h], thrown_row(dice, p, d))
                for other in (bent, inside, (0,) * len(row), thrown_row(dice, p, len(row))):
                    for many in range(1, d + 1):
                        told = self.check(with_told(laying, f, h, other), many)
                        found.add(told and told[0])
                        if f == h:
                            self.assertEqual(told, laying_fault(laying, many))
        self.assertEqual(found, {"told", "rebuild", "read", None})

    def test_bent_at_one_row_that_is_kept(self):
        found = set()
        for shape, laying in own_layings(11, 5):
            p, k, d, l = shape
            if l:
                continue
            dice = dice_of("kept", shape)
            for h, at in itertools.product(range(len(laying[2])), range(d)):
                row = laying[2][h][at]
                for other in (thrown_row(dice, p, len(row)), (0,) * len(row), laying[2][h][0]):
                    for many in range(1, d + 1):
                        found.add((self.check(with_kept(laying, h, at, other), many) or [None])[0])
        # What a house tells for d others makes all that it kept: so where it keeps less, it is told that first.
        self.assertEqual(found, {"told", "read", None})

    def test_bent_at_several(self):
        for shape, laying in own_layings(11, 6):
            p, k, d, l = shape
            dice = dice_of("several", shape, len(laying[2]))
            houses = range(len(laying[2]))
            for many in range(1, d + 1):
                bent = laying
                for _ in range(3):
                    row = thrown_row(dice, p, laying[1])
                    if dice.randrange(2):
                        bent = with_kept(bent, dice.choice(houses), dice.randrange(d), row)
                    else:
                        bent = with_told(bent, dice.choice(houses), dice.choice(houses), row)
                self.check(bent, many)

    def test_any_ones(self):
        for make in (thrown_laying, thrown_telling):
            for houses in range(2, 7):
                for d in range(1, min(5, houses - 1) + 1):
                    for many in (1, 2, d, d + 1, 24):
                        laying = make(dice_of("any", houses, d, many), 11, many, houses, d)
                        for k in range(1, d + 1):
                            self.check(laying, k)

    def test_of_one_number_all_layings_gone_through(self):
        # Two houses with one rest each: by whether the rests are 0.
        for a, b, c, e in itertools.product((0, 1, 7), repeat=4):
            laying = (11, 1, (((a,),), ((b,),)), (((5,), (c,)), ((e,), (5,))))
            wanted = None
            if c and not b:
                wanted = ("told", 0, 1)
            elif e and not a:
                wanted = ("told", 1, 0)
            elif a and not c:
                wanted = ("rebuild", 0, (1,))
            elif b and not e:
                wanted = ("rebuild", 1, (0,))
            elif not a:
                wanted = ("read", (0,))
            elif not b:
                wanted = ("read", (1,))
            self.assertEqual(laying_fault(laying, 1), wanted, laying)

    def test_what_is_handed_in_is_unchanged_and_nothing_is_raised_beyond_the_limits(self):
        laying = own_laying((11, 2, 3, 1), (0, 1, 2, 5))
        before = copy.deepcopy(laying)
        for k in range(7):
            laying_fault(laying, k)
            chain_of(laying, k)
        self.assertEqual(laying, before)
        own_laying((11, 2, 3, 1), (0, 1))
        own_laying((11, 2, 3, 1), tuple(range(10)))
        bound_of(0, 0)
        bound_of(9, 12)


class BoundTest(unittest.TestCase):
    def test_bound_of_all_k_and_d(self):
        for d in range(1, 6):
            for k in range(1, d + 1):
                self.assertEqual(2 * bound_of(k, d), 2 * k * d - k * (k - 1))
                self.assertEqual(bound_of(k, d), sum(d - at for at in range(k)))
                self.assertIs(type(bound_of(k, d)), int)
        self.assertEqual([bound_of(k, 5) for k in range(1, 6)], [5, 9, 12, 14, 15])

    def test_chain_of_own_ones(self):
        for shape, laying in own_layings(11, 8):
            p, k, d, l = shape
            chain = chain_of(laying, k)
            self.assertEqual((chain, type(chain)), (tuple(d - at for at in range(k)), tuple))
            self.assertEqual(sum(chain), bound_of(k, d))
            self.assertEqual(laying[1], bound_of(k, d))

    def test_chain_of_any(self):
        for houses in range(2, 8):
            for d in range(1, min(5, houses - 1) + 1):
                for many in (1, 3, 8, 24):
                    laying = thrown_laying(dice_of("chain", houses, d, many), 11, many, houses, d)
                    twice = with_part(laying, 2, laying[2][:1] * 2 + laying[2][2:])
                    for k, one in itertools.product(range(1, d + 1), (laying, twice)):
                        sizes = [own_size(11, [row for house in one[2][:first] for row in house])
                                 for first in range(k + 1)]
                        self.assertEqual(chain_of(one, k), tuple(b - a for a, b in zip(sizes, sizes[1:])))

    def test_whatever_is_handed_in_its_fault_is_told_or_the_chain_shows_the_bound(self):
        found = {True: 0, False: 0}
        for shape, laying in own_layings(11, 6):
            p, k, d, l = shape
            dice = dice_of("bound", shape, len(laying[2]))
            layings = [laying, mixed_laying(dice, laying), thrown_telling(dice, p, laying[1], len(laying[2]), d),
                       fewer_hidden(laying), with_told(laying, 0, 1, thrown_row(dice, p, laying[1]))]
            for one, many in itertools.product(layings, range(1, d + 1)):
                right = laying_fault(one, many) is None
                found[right] += 1
                if right:
                    chain = chain_of(one, many)
                    self.assertTrue(all(grown <= d - at for at, grown in enumerate(chain)))
                    self.assertEqual(sum(chain), one[1])
                    self.assertLessEqual(one[1], bound_of(many, d))
        self.assertGreater(min(found.values()), 100)


def fewer_hidden(laying):
    """The laying without its last hidden number, where there is another."""
    p, many, keeps, tells = laying
    if many == 1:
        return laying
    parts = [tuple(tuple(row[:-1] for row in rows) for rows in part) for part in (keeps, tells)]
    return p, many - 1, *parts


class OwnLayingTest(unittest.TestCase):
    def test_the_rows_as_houses_keep_and_tell(self):
        for shape in shapes_by(11, 211):
            p, k, d, l = shape
            for houses in range(d + 1, 9):
                for xs in some_xs(p, houses):
                    self.check(shape, xs)

    def check(self, shape, xs):
        p, k, d, l = shape
        told = own_laying(shape, xs)
        self.assertTrue(own_is_laying(told))
        self.assertEqual(told[:2], (p, k * d - k * (k - 1) // 2))
        secrets, dice = thrown_thing(dice_of("own", shape, xs), shape)
        secret_places, dice_places = own_places(shape)
        at = dict(zip(secret_places + dice_places, secrets + dice))
        numbers = [at[place] for place in sorted(at)]
        table = own_table(shape, secrets, dice)
        for f, y in enumerate(xs):
            kept = tuple(product_of(p, row, numbers) for row in told[2][f])
            self.assertEqual(kept, own_keeps(shape, table, y))
            for h, x in enumerate(xs):
                if f == h:
                    self.assertEqual(told[3][f][h], (0,) * told[1])
                else:
                    rest = own_tells(shape, own_keeps(shape, table, x), y)
                    self.assertEqual(product_of(p, told[3][f][h], numbers), rest)

    def test_examples(self):
        self.assertEqual(own_laying((11, 1, 1, 0), (3, 10)),
                         (11, 1, (((1,),), ((1,),)), (((0,), (1,)), ((1,), (0,)))))
        p, many, keeps, tells = own_laying((11, 2, 2, 1), (0, 1, 3))
        self.assertEqual((p, many), (11, 3))
        self.assertEqual(keeps, (((1, 0, 0), (0, 1, 0)), ((1, 1, 0), (0, 1, 1)), ((1, 3, 0), (0, 1, 3))))
        self.assertEqual(tells[0], ((0, 0, 0), (1, 1, 0), (1, 3, 0)))
        self.assertEqual(tells[2], ((1, 3, 0), (1, 4, 3), (0, 0, 0)))

    def test_the_rows_are_all_that_numbers_tell(self):
        # At the number of one place alone the rests are those of the rows: so the rows are the only right ones.
        for shape in shapes_by(13):
            xs = tuple(range(shape[2] + 1))
            told = own_laying(shape, xs)
            secret_places, dice_places = own_places(shape)
            for at, place in enumerate(sorted(secret_places + dice_places)):
                table = own_table(shape, [int(one == place) for one in secret_places],
                                  [int(one == place) for one in dice_places])
                for f, y in enumerate(xs):
                    self.assertEqual(tuple(row[at] for row in told[2][f]), own_keeps(shape, table, y))


if __name__ == "__main__":
    unittest.main()
