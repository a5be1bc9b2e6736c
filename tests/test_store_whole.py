"""Promises [1] and [2] of stores: led through many deeds, asked at each step, held against a keeping of the tests'."""

import itertools
import unittest

from tests.own_store import OwnStore, check_spies, check_store, do_to, plain_store_made_of, thrown_deed
from tests.sample_rows import dice_of
from tests.sample_things import added, own_keeps, own_table, shapes_by
from toldpieces.errors import Busy, PieceError
from toldpieces.houses import alike_on, read_back
from toldpieces.stores import Store
from toldpieces.tables import thing_of

REFUSED = (("fall", None), ("rebuild", 99, (), ()), ("more", -1, (), ()), ("write", (), None), ("post", "No", 0),
           ("leave", "nobody"))


class LedStoreTest(unittest.TestCase):
    def led(self, seed, shape, many, steps):
        """A store led through so many deeds, some of them undone, and its own keeping, held against it each time."""
        dice = dice_of("led", seed, shape)
        made_of = plain_store_made_of(shape, many, dice)
        store, own = Store(*made_of), OwnStore(made_of)
        for step in range(steps):
            chance = dice.randrange(10)
            if chance == 0 and own.deeds:
                self.assertIsNone(store.back())
                own = OwnStore(made_of, own.deeds[:-1])
            elif chance == 1:
                self.check_refused(store, dice.choice(REFUSED))
            elif chance == 2:
                self.check_rehearsed(dice, store, own)
            elif len(own.deeds) < 60:
                deed = thrown_deed(dice, own)
                own.do(deed)
                self.assertEqual(do_to(store, deed), own.told[-1])
            self.check(store, own)
        return store, own

    def check(self, store, own):
        check_store(self, store, own)
        self.assertEqual(store.its_deeds(), tuple(own.deeds))
        self.assertEqual((len(store), str(store)), (len(own.deeds), own.text()))

    def check_refused(self, store, deed):
        with self.assertRaises((PieceError, LookupError)):
            do_to(store, deed)

    def check_rehearsed(self, dice, store, own):
        ahead = OwnStore(own.made_of, own.deeds)
        deeds = []
        for _ in range(min(4, 60 - len(own.deeds))):
            deeds.append(thrown_deed(dice, ahead))
            ahead.do(deeds[-1])

        def tell(a_store, told):
            self.assertRaises(Busy, a_store.back)
            check_store(self, a_store, OwnStore(own.made_of, list(a_store.its_deeds())))

        self.assertEqual(store.rehearsed(deeds, tell=tell), tuple(ahead.told[len(own.deeds):]))

    def check_moments(self, store, own):
        for at in range(len(own.deeds) + 1):
            check_store(self, store, OwnStore(own.made_of, own.deeds[:at]), at)
        again = Store(*own.made_of)
        for deed in own.deeds:
            do_to(again, deed)
        self.assertEqual(store, again)

    def test_stores_of_all_shapes(self):
        for shape in shapes_by(11, 211):
            store, own = self.led(0, shape, min(8, shape[2] + 3), 25)
            self.check_moments(store, own)
            check_spies(self, store, own, tuple(sorted(own.saw)))

    def test_stores_led_for_long(self):
        for seed, shape in enumerate(((11, 2, 3, 1), (13, 3, 4, 2), (101, 5, 5, 2), (211, 3, 5, 0), (17, 1, 2, 0))):
            store, own = self.led(seed, shape, 7, 110)
            self.check_moments(store, own)
            self.assertGreater(len(own.deeds), 40)

    def test_any_k_give_the_thing_back_and_for_any_fewer_two_lie_alike(self):
        for shape in shapes_by(11):
            p, k, d, l = shape
            store, own = self.led("fewer", shape, 7, 12)
            thing = own.thing_behind(len(own.written) - 1)
            table = own_table(shape, *thing)
            for xs in itertools.combinations(store.standing(), k):
                told = read_back(shape, tuple((x, store.kept(x)) for x in xs))
                self.assertEqual(thing_of(shape, told), thing)
            for xs in itertools.combinations(store.standing(), k - 1):
                other = thing_of(shape, added(shape, table, alike_on(shape, xs)))
                self.assertNotEqual(other, thing)
                for x in xs:
                    self.assertEqual(own_keeps(shape, own_table(shape, *other), x), store.kept(x))


if __name__ == "__main__":
    unittest.main()
