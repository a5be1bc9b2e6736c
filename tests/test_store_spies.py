"""Promise [22], and [2] as far as it speaks of spies: what they know, and the papers on it."""

import itertools
import unittest

from tests.odd_things import plain_things, spoiled
from tests.own_store import OwnStore, check_spies, do_to, plain_store_made_of
from tests.sample_rows import dice_of, is_tuple_of_rests, product_of, sum_of, thrown_row
from tests.sample_things import own_size, shapes_by, small_groups, thrown_thing, unit
from toldpieces.errors import NoGroup, NoRow, NoSpy, NoWrite
from toldpieces.papers import makes_hold, parted_hold
from toldpieces.shapes import dice_many, secrets_many
from toldpieces.stores import Store

SHAPE = (11, 2, 3, 1)
MADE_OF = (SHAPE, (0, 1, 2, 5, 7, 10), (1, 2), (3, 4, 5))
DEEDS = (("post", "ann", 2), ("post", "bob", 2), ("write", (5, 6), None), ("fall", 5), ("post", "cy", 5),
         ("write", (7, 8), (9, 10, 0)), ("post", "bob", 0), ("post", "dora", 1), ("leave", "dora"),
         ("rebuild", 5, (0, 1, 10), ()), ("fall", 2), ("write", (0, 9), None), ("rebuild", 2, (0, 1, 5), ()))


def led(made_of, deeds):
    store = Store(*made_of)
    for deed in deeds:
        do_to(store, deed)
    return store


class SeenTest(unittest.TestCase):
    def setUp(self):
        self.store, self.own = led(MADE_OF, DEEDS), OwnStore(MADE_OF, DEEDS)

    def test_of_one_of_several_and_of_none(self):
        for spies in small_groups(("ann", "bob", "cy", "dora"), 4):
            check_spies(self, self.store, self.own, spies)
        self.assertEqual(self.store.seen(("ann",)), ((2, 0), (2, 1), (2, 2), (2, 3)))
        self.assertEqual(self.store.seen(("bob",)), ((2, 0), (2, 1), (2, 2), (0, 2), (0, 3)))
        self.assertEqual(self.store.seen(("cy",)), ((5, 2), (5, 3)))
        self.assertEqual(self.store.seen(("dora",)), ((1, 2),))
        self.assertEqual((self.store.seen(()), self.store.rows(())), ((), ()))

    def test_rows_tell_each_pair_once_at_its_first_place(self):
        self.assertEqual(len(self.store.seen(("ann", "bob"))), 9)
        self.assertEqual(len(self.store.rows(("ann", "bob"))), 6 * 3)
        self.assertEqual(self.store.rows(("ann", "bob"))[:12], self.store.rows(("ann",)))

    def test_rows_come_to_what_was_kept(self):
        hidden = self.store.hidden()
        rows = iter(self.store.rows(("ann", "bob", "cy", "dora")))
        for x, write in dict.fromkeys(self.store.seen(("ann", "bob", "cy", "dora"))):
            wanted = self.own.row_behind(x, write)
            self.assertEqual(tuple(product_of(11, next(rows), hidden) for _ in range(3)), wanted)
        self.assertIsNone(next(rows, None))

    def test_rows_of_all_shapes(self):
        for shape in shapes_by(13):
            dice = dice_of("rows", shape)
            made_of = plain_store_made_of(shape, 7, dice)
            deeds = [("post", "ann", made_of[1][0]), ("post", "bob", made_of[1][6]),
                     ("write", thrown_thing(dice, shape)[0], None), ("post", "ann", made_of[1][3]),
                     ("write", *thrown_thing(dice, shape))]
            check_spies(self, led(made_of, deeds), OwnStore(made_of, deeds), ("ann", "bob"))


class GroupTest(unittest.TestCase):
    def setUp(self):
        self.store = led(MADE_OF, DEEDS)
        self.row = (0,) * len(self.store.hidden())

    def asking(self):
        yield self.store.seen, ()
        yield self.store.rows, ()
        for more in (self.row, None):
            yield self.store.knows, (more,)
            yield self.store.why, (more,)
        for more in (0, 99, None):
            yield self.store.learned, (more,)

    def test_no_group(self):
        for ask, more in self.asking():
            for spies in ("ann", ["ann"], ("bob", "ann"), ("ann", "ann"), ("Ann",), ("",), ("abcdefghi",), (1,), None,
                          ("ann", None), ("ann", ("bob",)), {"ann": 1}, 0, ("eve", "bob"), ("ann", 7), (["ann"],)):
                self.assertRaises(NoGroup, ask, spies, *more)
            for thing in plain_things() + list(spoiled(("ann", "cy"))):
                if type(thing) is tuple and all(type(name) is str and name.isalpha() for name in thing):
                    continue
                self.assertRaises(NoGroup, ask, thing, *more)

    def test_no_spy_the_first_that_was_not_posted(self):
        for ask, more in self.asking():
            for spies, name in ((("eve",), "eve"), (("a", "ann"), "a"), (("ann", "eve", "fay"), "eve"),
                                (("zz",), "zz")):
                with self.assertRaises(NoSpy) as caught:
                    ask(spies, *more)
                self.assertEqual(caught.exception.name, name)

    def test_no_row(self):
        for spies in ((), ("ann",), ("ann", "cy")):
            for ask in (self.store.knows, self.store.why):
                for row in (self.row + (0,), self.row[1:], (), list(self.row), None, 0, "0", self.row[1:] + (11,),
                            self.row[1:] + (-1,), self.row[1:] + (True,), (False,) + self.row[1:],
                            self.row[1:] + (None,), (self.row,), {}):
                    self.assertRaises(NoRow, ask, spies, row)
                for thing in plain_things() + list(spoiled(self.row)):
                    if not is_tuple_of_rests(11, len(self.row), thing):
                        self.assertRaises(NoRow, ask, spies, thing)

    def test_no_write(self):
        for spies in ((), ("ann",), ("ann", "cy")):
            for write in (4, -1, True, False, None, "0", (0,), [0], 10 ** 29, *plain_things()):
                if type(write) is int and 0 <= write <= 3:
                    self.assertIs(type(self.store.learned(spies, write)), int)
                    continue
                with self.assertRaises(NoWrite) as caught:
                    self.store.learned(spies, write)
                self.assertEqual(repr(caught.exception.number), repr(write))


class KnownTest(unittest.TestCase):
    def rows_to_ask(self, dice, p, rows, n):
        """Rows that are known, and any."""
        yield (0,) * n
        for _ in range(4):
            if rows:
                yield sum_of(p, n, rows, [dice.randrange(p) for _ in rows])
            yield thrown_row(dice, p, n)
        for at in range(n):
            yield unit(n, at)

    def check(self, store, own, spies, at=None):
        p = own.p
        rows, n = own.rows(spies), len(own.hidden())
        size = own_size(p, rows)
        found = set()
        for row in self.rows_to_ask(dice_of("ask", spies, n), p, rows, n):
            right = own_size(p, rows + (row,)) == size
            self.assertIs(store.knows(spies, row, at=at), right)
            word, paper = store.why(spies, row, at=at)
            self.assertEqual(word, "makes" if right else "parted")
            self.assertIs(makes_hold(p, n, rows, row, paper), right)
            self.assertIs(parted_hold(p, n, rows, row, paper), not right)
            if not right:
                self.check_histories(own, spies, row, paper)
            found.add(right)
        return found

    def check_histories(self, own, spies, row, paper):
        """Both histories are alike to the spies, and the sum isn't the same in both."""
        one, other = (own.with_hidden(numbers) for numbers in paper)
        for x, write in own.seen(spies):
            self.assertEqual(one.row_behind(x, write), other.row_behind(x, write))
        self.assertNotEqual(product_of(own.p, row, one.hidden()), product_of(own.p, row, other.hidden()))

    def test_papers_now_and_at_moments(self):
        store = led(MADE_OF, DEEDS)
        found = set()
        for at in range(len(DEEDS) + 1):
            own = OwnStore(MADE_OF, DEEDS[:at])
            for spies in small_groups(sorted(own.saw), 2):
                found |= self.check(store, own, spies, at)
        self.assertEqual(found, {True, False})
        self.assertEqual(self.check(store, OwnStore(MADE_OF, DEEDS), ("ann", "bob", "cy", "dora")), {True, False})

    def test_of_no_spies_noughts_alone_are_known(self):
        store = led(MADE_OF, DEEDS)
        n = len(store.hidden())
        self.assertIs(store.knows((), (0,) * n), True)
        self.assertEqual(store.why((), (0,) * n), ("makes", ()))
        for at in range(n):
            self.assertIs(store.knows((), unit(n, at)), False)
            self.assertEqual(store.why((), unit(n, at))[0], "parted")

    def test_of_all_shapes(self):
        for shape in shapes_by(11):
            dice = dice_of("known", shape)
            made_of = plain_store_made_of(shape, 7, dice)
            xs = made_of[1]
            deeds = [("post", "ann", xs[0]), ("post", "ann", xs[6]), ("write", thrown_thing(dice, shape)[0], None),
                     ("post", "bob", xs[2]), ("write", *thrown_thing(dice, shape)), ("post", "bob", xs[3])]
            store, own = led(made_of, deeds), OwnStore(made_of, deeds)
            for spies in (("ann",), ("ann", "bob")):
                self.check(store, own, spies)


class LearnedTest(unittest.TestCase):
    def wanted(self, shape, c):
        """By [22], of c houses that were seen behind a write."""
        p, k, d, l = shape
        if c <= l:
            return 0
        if c >= k:
            return secrets_many(shape)
        return c * d - c * (c - 1) // 2 - dice_many(shape)

    def test_of_c_houses_seen_behind_one_write(self):
        for shape in shapes_by(11, 211):
            made_of = plain_store_made_of(shape, 8, dice_of("learned", shape))
            store = Store(*made_of)
            for c, x in enumerate(made_of[1]):
                if c:
                    self.assertEqual(store.learned(("ann",), 0), self.wanted(shape, c))
                self.assertEqual(store.learned((), 0), 0)
                store.post("ann", x)
            self.assertEqual(store.learned(("ann",), 0), self.wanted(shape, 8))

    def test_both_ends_agree(self):
        for shape in shapes_by(11):
            p, k, d, l = shape
            self.assertEqual(l * d - l * (l - 1) // 2 - dice_many(shape), 0)
            self.assertEqual(k * d - k * (k - 1) // 2 - dice_many(shape), secrets_many(shape))

    def test_whatever_else_they_saw_behind_other_dice(self):
        for shape in shapes_by(11):
            for c in range(9):
                dice = dice_of("else", shape, c)
                made_of = plain_store_made_of(shape, 8, dice)
                xs = made_of[1]
                deeds = [("post", "ann", x) for x in xs[:3]] + [("leave", "ann")]
                deeds += [("write", *thrown_thing(dice, shape))]
                deeds += [("post", "bob", x) for x in xs[:c]] + ([("leave", "bob")] if c else [])
                # Seen behind these dice is write 1 alone: at write 2 nobody is posted.
                deeds += [("write", thrown_thing(dice, shape)[0], None)]
                deeds += [("write", *thrown_thing(dice, shape))] + [("post", "cy", x) for x in xs[2:]]
                store = led(made_of, deeds)
                spies = ("ann", "bob", "cy") if c else ("ann", "cy")
                self.assertEqual(store.learned(spies, 1), self.wanted(shape, c), (shape, c))
                self.assertEqual(store.learned(spies, 0), self.wanted(shape, 3))
                self.assertEqual(store.learned(spies, 3), self.wanted(shape, 6))
                self.assertEqual(store.learned(("ann",), 1), 0)

    def test_of_l_houses_since_the_dice_were_thrown_nothing_is_known_of_each_write(self):
        for shape in shapes_by(11):
            p, k, d, l = shape
            dice = dice_of("nothing", shape)
            made_of = plain_store_made_of(shape, 7, dice)
            spots = made_of[1][1:1 + l]
            deeds = [("post", name, x) for name, x in zip(("ann", "bob", "cy", "dora"), spots)]
            for _ in range(2):
                deeds += [("write", thrown_thing(dice, shape)[0], None)]
                for x in spots:
                    deeds += [("fall", x), ("rebuild", x, tuple(y for y in made_of[1] if y != x), ())]
            store, own = led(made_of, deeds), OwnStore(made_of, deeds)
            spies = ("ann", "bob", "cy", "dora")[:l]
            for write in range(3):
                self.assertEqual(store.learned(spies, write), 0)
            check_spies(self, store, own, spies)

    def test_for_any_secrets_there_are_as_many_ways_all_gone_through(self):
        # By 11: one die row, one secret; house 4 seen behind both writes, the dice kept.
        shape = (11, 2, 2, 1)
        made_of = (shape, (0, 4, 9), (3,), (5, 6))
        deeds = [("post", "ann", 4), ("write", (8,), None)]
        store, own = led(made_of, deeds), OwnStore(made_of, deeds)
        saw = [own.row_behind(x, write) for x, write in store.seen(("ann",))]
        ways = {0: {}, 1: {}}
        for first, a, b, second in itertools.product(range(11), repeat=4):
            other = OwnStore((shape, (0, 4, 9), (first,), (a, b)), [("post", "ann", 4), ("write", (second,), None)])
            if [other.row_behind(x, write) for x, write in store.seen(("ann",))] == saw:
                for write, secret in ((0, first), (1, second)):
                    ways[write][secret] = ways[write].get(secret, 0) + 1
        for write in range(2):
            self.assertEqual(len(ways[write]), 11)
            self.assertEqual(len(set(ways[write].values())), 1)
            self.assertEqual(store.learned(("ann",), write), 0)

    def test_dice_kept_over_a_write(self):
        # Houses 2 and 5 behind write 0 tell the dice, so house 7 behind write 1 tells of its secrets, too.
        store = led(MADE_OF, [("post", "ann", 2), ("post", "ann", 5), ("leave", "ann"), ("write", (5, 6), None)])
        self.assertEqual([store.learned(("ann",), write) for write in (0, 1)], [2, 0])
        store.post("bob", 7)
        self.assertEqual([store.learned(("bob",), write) for write in (0, 1)], [0, 0])
        self.assertEqual([store.learned(("ann", "bob"), write) for write in (0, 1)], [2, 2])

    def test_led_anyhow_against_the_own_keeping(self):
        for shape in shapes_by(11):
            dice = dice_of("anyhow", shape)
            made_of = plain_store_made_of(shape, 7, dice)
            deeds = []
            for turn in range(4):
                deeds += [("post", dice.choice(("ann", "bob")), dice.choice(made_of[1])) for _ in range(3)]
                secrets, rolled = thrown_thing(dice, shape)
                deeds += [("write", secrets, dice.choice((None, rolled)))]
            store, own = led(made_of, deeds), OwnStore(made_of, deeds)
            check_spies(self, store, own, tuple(sorted(own.saw)))


if __name__ == "__main__":
    unittest.main()
