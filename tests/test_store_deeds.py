"""Promises [17], [18] and [19]: what a store is made of, its deeds and their refusals."""

import copy
import itertools
import unittest

from tests.odd_things import plain_things, spoiled, with_part
from tests.own_store import OwnStore, check_store, do_to, plain_store_made_of
from tests.sample_rows import dice_of, is_tuple_of_rests
from tests.sample_things import own_keeps, own_table, shapes_by, small_groups, thrown_thing
from toldpieces.errors import (
    Few, Fallen, Full, Long, NoDice, NoGroup, NoHouse, NoLies, NoName, NoNumber, NoSecrets, NoSpy, NothingBack,
    Standing, Taken,
)
from toldpieces.stores import DEEDS, HOUSES, SPIES, WRITES, Store

SHAPE = (11, 2, 3, 1)
XS = (0, 1, 2, 5, 7, 10)
MADE_OF = (SHAPE, XS, (1, 2), (3, 4, 5))


def whole(store):
    """All that can be asked of the store without naming anybody."""
    moments = [(store.houses(at=at), store.standing(at=at), store.hidden(at=at), store.marks(at=at),
                [store.kept(x, at=at) for x in store.standing(at=at)]) for at in range(len(store) + 1)]
    return moments, store.its_deeds(), len(store), str(store), store.log()


class StoreTest(unittest.TestCase):
    def refused(self, store, error, fields, ask, *things, **named):
        """The refusal comes, has these fields, and leaves the store and all that was handed in as they were."""
        before, handed = whole(store), copy.deepcopy((things, named))
        with self.assertRaises(error) as caught:
            ask(*things, **named)
        self.assertIs(type(caught.exception), error)
        told = {name: getattr(caught.exception, name) for name in fields}
        self.assertEqual(repr(told), repr(fields))
        self.assertEqual(whole(store), before)
        self.assertEqual((things, named), handed)

    def made(self, *deeds):
        store = Store(*MADE_OF)
        for deed in deeds:
            do_to(store, deed)
        return store

    def check(self, store, *deeds):
        check_store(self, store, OwnStore(MADE_OF, deeds))
        for at in range(len(deeds) + 1):
            check_store(self, store, OwnStore(MADE_OF, deeds[:at]), at)
        self.assertEqual(store.its_deeds(), deeds)


class MadeTest(StoreTest):
    def test_the_limits(self):
        self.assertEqual((HOUSES, WRITES, SPIES, DEEDS), (8, 4, 4, 60))

    def test_all_shapes(self):
        for shape in shapes_by(11, 211):
            for many in range(shape[2] + 1, 9):
                made_of = plain_store_made_of(shape, many, dice_of("made", shape, many))
                store = Store(*made_of)
                check_store(self, store, OwnStore(made_of))
                check_store(self, store, OwnStore(made_of), 0)
                self.assertEqual(store.standing(), made_of[1])
                for x in made_of[1]:
                    self.assertEqual(store.kept(x), own_keeps(shape, own_table(shape, *made_of[2:]), x))
                self.assertEqual((len(store), store.its_deeds(), store.writes()), (0, (), 0))

    def test_no_dice(self):
        store = Store((11, 1, 2, 0), (0, 1, 2), (4, 5), ())
        self.assertEqual(store.hidden(), (4, 5))
        self.assertEqual(store.marks(), (("secret", 0, (0, 0)), ("secret", 0, (0, 1))))

    def test_a_store_somewhat_beyond_the_limits(self):
        store = Store(SHAPE, tuple(range(9)), (1, 2), (3, 4, 5))
        self.assertEqual(store.standing(), tuple(range(9)))
        store.fall(8)
        self.assertEqual(store.rebuild(8, tuple(range(8)), lies=((0, 1), (3, 1))), (0, 3))
        self.refused(store, Full, {}, store.more, 9, (0, 1, 2))
        Store(SHAPE, (0, 1), (1, 2), (3, 4, 5)).fall(0)


class FallTest(StoreTest):
    def test_each_house_falls(self):
        for x in XS:
            store = self.made()
            self.assertIsNone(store.fall(x))
            self.assertEqual(store.standing(), tuple(y for y in XS if y != x))
            self.check(store, ("fall", x))

    def test_all_fall(self):
        store = self.made()
        for x in XS:
            store.fall(x)
        self.assertEqual((store.houses(), store.standing()), (XS, ()))
        self.check(store, *[("fall", x) for x in XS])

    def test_refusals(self):
        store = self.made(("fall", 2), ("fall", 0))
        for x in (2, 0):
            self.refused(store, Fallen, {"x": x}, store.fall, x)
        for x in (3, 11, -1, 12, -10, True, False, "1", (1,), [1], None, 10 ** 29):
            self.refused(store, NoHouse, {"x": x}, store.fall, x)

    def test_whatever_it_is(self):
        store = self.made()
        for thing in plain_things():
            if type(thing) is not int or thing not in XS:
                self.refused(store, NoHouse, {"x": thing}, store.fall, thing)


class HelpedTest(StoreTest):
    """What rebuild and more have alike: whom they ask."""

    def asking(self):
        """Stores in which house 7 lies fallen or isn't there, and what asks for it; 2 lies fallen, 5 is no helper."""
        store = self.made(("fall", 2), ("fall", 7))
        yield store, lambda *things, **named: store.rebuild(7, *things, **named)
        other = self.made(("fall", 2), ("fall", 7))
        yield other, lambda *things, **named: other.more(9, *things, **named)

    def test_no_group(self):
        for store, ask in self.asking():
            for helpers in ((1, 0, 5), (0, 1, 1, 5), (0, 1, 11), (-1, 0, 1), (0, True, 5), (False, 1, 5), (0, 1, "5"),
                            (0, 1, None), [0, 1, 5], [], {"0": 1}, "015", None, 0, ((0, 1, 5),), (0, 1, (5,)),
                            (0, [1], 5), (10, 5, 1), (5, 5)):
                self.refused(store, NoGroup, {}, ask, helpers)
                # Ahead of what lies say.
                self.refused(store, NoGroup, {}, ask, helpers, lies=None)
            for thing in plain_things() + list(spoiled((0, 1, 5))):
                if type(thing) is tuple and all(type(x) is int and 0 <= x < 11 for x in thing):
                    continue
                self.refused(store, NoGroup, {}, ask, thing)

    def test_no_house_then_fallen_then_few(self):
        for store, ask in self.asking():
            for helpers, error, x in (((0, 1, 3), NoHouse, 3), ((0, 3, 4, 6), NoHouse, 3), ((0, 2, 3), NoHouse, 3),
                                      ((2, 7, 8), NoHouse, 8), ((2, 5), Fallen, 2), ((0, 1, 2, 7), Fallen, 2),
                                      ((0, 1, 5, 7), Fallen, 7), ((7,), Fallen, 7), ((4,), NoHouse, 4)):
                self.refused(store, error, {"x": x}, ask, helpers)
                self.refused(store, error, {"x": x}, ask, helpers, lies=[None])
            for helpers in ((), (0,), (0, 1), (5, 10)):
                self.refused(store, Few, {"least": 3}, ask, helpers)
                self.refused(store, Few, {"least": 3}, ask, helpers, lies=((0, 1),))

    def test_no_lies(self):
        store = self.made(("fall", 7))
        other = self.made(("fall", 7))
        asking = ((store, lambda *things, **named: store.rebuild(7, *things, **named)),
                  (other, lambda *things, **named: other.more(9, *things, **named)))
        for a_store, ask in asking:
            for helpers, lies in (((0, 1, 2), ((0, 1),)), ((0, 1, 2, 5), ((0, 1),)),
                                  ((0, 1, 2, 5, 10), ((0, 1), (1, 1)))):
                self.refused(a_store, NoLies, {}, ask, helpers, lies=lies)
            for lie in ((0, 0), (0, 11), (0, -1), (7, 1), (3, 1), (True, 1), (False, 1), (1, True), [1, 1], (1, 1, 1),
                        (1,), (), 1, None, "1:1", (1, (1,)), ("1", 1), ((1,), 1), ([1], 1), (None, 1), (1, None)):
                self.refused(a_store, NoLies, {}, ask, (0, 1, 2, 5, 10), lies=(lie,))
            for lies in ([(1, 1)], [], {}, {"1": 1}, (1, 1), None, 0, "", False):
                self.refused(a_store, NoLies, {}, ask, (0, 1, 2, 5, 10), lies=lies)
            for thing in plain_things():
                if thing != ():
                    self.refused(a_store, NoLies, {}, ask, (0, 1, 2, 5, 10), lies=thing)
            for thing in [*spoiled(((1, 4),)), *((odd,) for odd in spoiled((1, 4)))]:
                if thing != ():
                    self.refused(a_store, NoLies, {}, ask, (0, 1, 2, 5, 10), lies=thing)

    def test_lies_rise_and_are_of_unlike_helpers(self):
        store = Store((11, 1, 1, 0), (0, 1, 2, 3, 4, 5), (6,), ())
        store.fall(5)
        for lies in (((1, 1), (0, 1)), ((1, 1), (1, 2)), ((1, 1), (1, 1)), ((0, 1), (1, 1), (2, 1))):
            self.refused(store, NoLies, {}, store.rebuild, 5, (0, 1, 2, 3, 4), lies=lies)
        self.assertEqual(store.rebuild(5, (0, 1, 2, 3, 4), lies=((1, 1), (3, 1))), (1, 3))
        self.assertEqual(store.kept(5), (6,))

    def test_liars_up_to_as_many_as_may(self):
        for shape in shapes_by(11):
            d = shape[2]
            for many in range(d, 8):
                made_of = plain_store_made_of(shape, many + 1, dice_of("liars", shape, many))
                helpers = made_of[1][1:]
                x = made_of[1][0]
                for liars in small_groups(helpers, (len(helpers) - d) // 2):
                    lies = tuple((liar, 1 + liar % 10) for liar in liars)
                    store = Store(*made_of)
                    row = store.kept(x)
                    store.fall(x)
                    self.assertEqual(store.rebuild(x, helpers, lies=lies), liars)
                    self.assertEqual(store.kept(x), row)
                    self.assertEqual(store.its_deeds(), (("fall", x), ("rebuild", x, helpers, lies)))

    def test_all_lies_of_one_helper(self):
        for x, more in itertools.product((0, 1, 2, 5, 10), range(1, 11)):
            store = self.made(("fall", 7))
            self.assertEqual(store.rebuild(7, (0, 1, 2, 5, 10), lies=((x, more),)), (x,))
            self.check(store, ("fall", 7), ("rebuild", 7, (0, 1, 2, 5, 10), ((x, more),)))


class RebuildTest(StoreTest):
    def test_by_any_helpers(self):
        for x in XS:
            others = [y for y in XS if y != x]
            for many in (3, 4, 5):
                for helpers in itertools.combinations(others, many):
                    store = self.made(("fall", x))
                    told = store.rebuild(x, helpers)
                    self.assertEqual((told, type(told)), ((), tuple))
                    self.assertEqual(store.standing(), XS)
                    self.check(store, ("fall", x), ("rebuild", x, helpers, ()))

    def test_by_houses_that_were_rebuilt_themselves(self):
        deeds = []
        store = self.made()
        for x in XS:
            deeds += [("fall", x), ("rebuild", x, tuple(y for y in XS if y != x)[-3:], ())]
        for deed in deeds:
            do_to(store, deed)
        self.check(store, *deeds)

    def test_refusals_ahead_of_those_of_helpers(self):
        store = self.made(("fall", 2))
        for helpers in (None, (), (1, 0), (3,), (2,)):
            for x in (3, 11, True, None, [2], "2", (2,)):
                self.refused(store, NoHouse, {"x": x}, store.rebuild, x, helpers)
            for x in (0, 10):
                self.refused(store, Standing, {"x": x}, store.rebuild, x, helpers)
                self.refused(store, Standing, {"x": x}, store.rebuild, x, helpers, lies=None)
        for thing in plain_things():
            if type(thing) is not int or thing not in XS:
                self.refused(store, NoHouse, {"x": thing}, store.rebuild, thing, (0, 1, 5))

    def test_lies_and_dice_are_handed_in_by_their_names(self):
        store = self.made(("fall", 2))
        self.assertRaises(TypeError, store.rebuild, 2, (0, 1, 5), ())
        self.assertRaises(TypeError, store.more, 3, (0, 1, 5), ())
        self.assertRaises(TypeError, store.write, (1, 2), (3, 4, 5))
        self.check(store, ("fall", 2))


class MoreTest(StoreTest):
    def test_any_house_more(self):
        for x in range(11):
            if x not in XS:
                store = self.made()
                self.assertEqual(store.more(x, (0, 2, 10)), ())
                self.assertEqual(store.houses(), tuple(sorted(XS + (x,))))
                self.check(store, ("more", x, (0, 2, 10), ()))

    def test_it_falls_is_rebuilt_helps_and_lies(self):
        deeds = (("more", 3, (0, 2, 10), ()), ("fall", 3), ("rebuild", 3, (0, 1, 2, 5, 7), ((7, 3),)),
                 ("fall", 0), ("more", 4, (1, 2, 3, 5, 7), ((3, 9),)), ("fall", 4), ("write", (0, 10), (9, 9, 9)),
                 ("rebuild", 0, (1, 3, 10), ()), ("rebuild", 4, (0, 3, 10), ()))
        store = self.made(*deeds)
        self.check(store, *deeds)

    def test_refusals(self):
        store = self.made(("fall", 2))
        for helpers in (None, (), (1, 0), (3,)):
            for x in (11, -1, True, False, None, "3", (3,), [3], 10 ** 29):
                self.refused(store, NoNumber, {"x": x}, store.more, x, helpers)
            for x in XS:
                self.refused(store, Taken, {"x": x}, store.more, x, helpers)
        for thing in plain_things():
            if type(thing) is not int or thing not in range(11):
                self.refused(store, NoNumber, {"x": thing}, store.more, thing, (0, 1, 5))

    def test_itself_is_no_helper(self):
        store = self.made()
        self.refused(store, NoHouse, {"x": 3}, store.more, 3, (0, 1, 3))

    def test_full(self):
        store = self.made(("more", 3, (0, 1, 2), ()), ("more", 4, (0, 1, 2), ()), ("fall", 4), ("fall", 0))
        for helpers, lies in ((None, None), ((), ()), ((1, 2, 3), ()), ((1, 2, 9), None)):
            self.refused(store, Full, {}, store.more, 6, helpers, lies=lies)
            self.refused(store, Taken, {"x": 4}, store.more, 4, helpers, lies=lies)
            self.refused(store, NoNumber, {"x": 11}, store.more, 11, helpers, lies=lies)
        for _ in range(4):
            store.back()
        self.assertEqual(store.more(6, (0, 1, 2)), ())


class WriteTest(StoreTest):
    def test_with_the_old_dice_and_with_new_ones(self):
        deeds = (("write", (5, 6), None), ("write", (7, 8), (9, 10, 0)), ("write", (0, 0), None),
                 ("write", (10, 10), (1, 1, 1)))
        store = self.made()
        for deed in deeds:
            self.assertIsNone(do_to(store, deed))
        self.check(store, *deeds)
        self.assertEqual(store.hidden(), (1, 2, 3, 4, 5, 5, 6, 7, 8, 9, 10, 0, 0, 0, 10, 10, 1, 1, 1))
        self.assertEqual(store.read((0, 1)), ((10, 10), ()))
        self.assertEqual([store.read((0, 1), at=at)[0] for at in range(4)], [(1, 2), (5, 6), (7, 8), (0, 0)])

    def test_what_was_left_out_is_none(self):
        store = self.made()
        store.write((5, 6))
        self.assertEqual(store.its_deeds(), (("write", (5, 6), None),))
        self.assertEqual(store.kept(0), (3, 4, 5))

    def test_all_shapes_while_houses_lie_fallen(self):
        for shape in shapes_by(11):
            dice = dice_of("write", shape)
            made_of = plain_store_made_of(shape, 8, dice)
            xs = made_of[1]
            one, other = thrown_thing(dice, shape), thrown_thing(dice, shape)
            deeds = [("fall", xs[0]), ("fall", xs[3]), ("write", *one), ("write", other[0], None),
                     ("rebuild", xs[0], tuple(x for x in xs if x not in (xs[0], xs[3])), ()),
                     ("write", one[0], other[1]), ("rebuild", xs[3], xs[:3] + xs[4:], ())]
            store = Store(*made_of)
            own = OwnStore(made_of)
            for deed in deeds:
                do_to(store, deed)
                own.do(deed)
                check_store(self, store, own)

    def test_no_dice_in_the_shape(self):
        store = Store((11, 1, 2, 0), (0, 1, 2), (4, 5), ())
        self.refused(store, NoDice, {}, store.write, (1, 2), dice=(0,))
        store.write((1, 2), dice=())
        store.write((3, 4))
        self.assertEqual(store.its_deeds(), (("write", (1, 2), ()), ("write", (3, 4), None)))
        self.assertEqual(store.hidden(), (4, 5, 1, 2, 3, 4))

    def test_refusals(self):
        store = self.made()
        for secrets in ((), (1,), (1, 2, 3), (1, 11), (-1, 2), (True, 2), (1, False), [1, 2], (1, "2"), None, "1 2",
                        (1, None), ((1, 2),), {"1": 2}, 12):
            for dice in (None, (3, 4, 5), (), [3]):
                self.refused(store, NoSecrets, {}, store.write, secrets, dice=dice)
        for dice in ((), (1,), (3, 4), (3, 4, 5, 6), (3, 4, 11), (-1, 4, 5), (True, 4, 5), [3, 4, 5], "3 4 5", 0, False,
                     True, ((3, 4, 5),), (3, 4, None), {"3": 4}):
            self.refused(store, NoDice, {}, store.write, (1, 2), dice=dice)

    def test_whatever_it_is(self):
        store = self.made()
        for thing in plain_things() + list(spoiled((1, 2))):
            if not is_tuple_of_rests(11, 2, thing):
                self.refused(store, NoSecrets, {}, store.write, thing)
        for thing in plain_things() + list(spoiled((3, 4, 5))):
            if thing is not None and not is_tuple_of_rests(11, 3, thing):
                self.refused(store, NoDice, {}, store.write, (1, 2), dice=thing)

    def test_full(self):
        store = self.made(*[("write", (at, at), None) for at in range(WRITES)])
        self.refused(store, Full, {}, store.write, (1, 2))
        self.refused(store, Full, {}, store.write, (1, 2), dice=(1, 2, 3))
        self.refused(store, NoSecrets, {}, store.write, (1, 2, 3))
        self.refused(store, NoDice, {}, store.write, (1, 2), dice=())
        store.back()
        self.assertIsNone(store.write((1, 2)))


class SpiesTest(StoreTest):
    def test_posted_where_it_stands_and_where_it_lies_fallen(self):
        deeds = (("post", "ann", 2), ("fall", 5), ("post", "bob", 5))
        store = self.made()
        for deed in deeds:
            self.assertIsNone(do_to(store, deed))
        self.assertEqual((store.seen(("ann",)), store.seen(("bob",))), (((2, 0),), ()))
        self.check(store, *deeds)

    def test_what_is_seen_and_when(self):
        deeds = (("post", "ann", 2), ("write", (5, 6), None), ("fall", 2), ("write", (7, 8), (1, 2, 3)),
                 ("rebuild", 2, (0, 1, 5), ()), ("fall", 2), ("rebuild", 2, (0, 1, 5), ()), ("post", "ann", 2),
                 ("post", "ann", 0), ("write", (0, 1), None), ("leave", "ann"), ("write", (2, 3), (4, 5, 6)),
                 ("post", "ann", 2), ("post", "ann", 1))
        store = self.made(*deeds)
        self.check(store, *deeds)
        self.assertEqual(store.seen(("ann",)), ((2, 0), (2, 1), (2, 2), (0, 2), (0, 3), (2, 4), (1, 4)))
        self.assertEqual([len(store.seen(("ann",), at=at)) for at in range(1, 15)],
                         [1, 2, 2, 2, 3, 3, 3, 3, 4, 5, 5, 5, 6, 7])

    def test_several_at_one_house(self):
        deeds = (("fall", 2), ("post", "ann", 2), ("post", "bob", 2), ("rebuild", 2, (0, 1, 5), ()),
                 ("write", (5, 6), None), ("leave", "ann"), ("write", (5, 6), None))
        store = self.made(*deeds)
        self.check(store, *deeds)
        self.assertEqual(store.seen(("ann", "bob")), ((2, 0), (2, 1), (2, 0), (2, 1), (2, 2)))

    def test_leaving_twice_and_unposted(self):
        store = self.made(("post", "ann", 2), ("leave", "ann"))
        self.refused(store, NoSpy, {"name": "ann"}, store.leave, "ann")
        self.refused(store, NoSpy, {"name": "bob"}, store.leave, "bob")
        self.assertIsNone(store.post("ann", 2))
        self.assertIsNone(store.leave("ann"))

    def test_whatever_is_to_leave(self):
        store = self.made(("post", "a", 2), ("post", "ann", 2), ("leave", "ann"))
        for thing in plain_things() + ["ann", "Ann", "a ", ["ann"], ("ann",), {"ann": 2}]:
            if thing != "a":
                self.refused(store, NoSpy, {"name": thing}, store.leave, thing)

    def test_names(self):
        store = self.made()
        for name in ("a", "z", "abcdefgh", "zzzzzzzz"):
            self.assertIsNone(store.post(name, 0))
        store = self.made()
        for name in ("", "A", "Ann", "abcdefghi", "a b", "a1", "1", " a", "a ", "a\n", "a_b", "\xe4", "a-b", None, 1,
                     True, ("ann",), ["ann"], {"ann": 1}):
            for x in (0, 3, None):
                self.refused(store, NoName, {"name": name}, store.post, name, x)
        for thing in plain_things():
            if thing != "a":
                self.refused(store, NoName, {"name": thing}, store.post, thing, 0)

    def test_no_house(self):
        store = self.made(("fall", 2))
        for x in (3, 11, True, "2", None, [2], (2,), -1):
            self.refused(store, NoHouse, {"x": x}, store.post, "ann", x)
        for thing in plain_things():
            if type(thing) is not int or thing not in XS:
                self.refused(store, NoHouse, {"x": thing}, store.post, "ann", thing)

    def test_full(self):
        names = ("ann", "bob", "cy", "dora")
        store = self.made(*[("post", name, 0) for name in names], ("leave", "ann"), ("leave", "bob"))
        self.refused(store, Full, {}, store.post, "eve", 0)
        self.refused(store, NoHouse, {"x": 3}, store.post, "eve", 3)
        self.refused(store, NoName, {"name": "Eve"}, store.post, "Eve", 0)
        for name in names:
            self.assertIsNone(store.post(name, 1))
        while len(store) > 3:
            store.back()
        # Those of deeds that no longer stand don't count.
        self.assertIsNone(store.post("eve", 0))
        self.refused(store, Full, {}, store.post, "dora", 0)
        self.refused(store, NoSpy, {"name": "dora"}, store.seen, ("dora",))


class BackTest(StoreTest):
    def test_each_deed_up_to_the_beginning(self):
        deeds = (("post", "ann", 2), ("fall", 2), ("fall", 0), ("post", "bob", 0), ("write", (5, 6), None),
                 ("rebuild", 2, (1, 5, 7, 10), ()), ("more", 3, (1, 2, 5), ()), ("write", (7, 8), (1, 2, 3)),
                 ("leave", "ann"), ("post", "bob", 3), ("rebuild", 0, (1, 2, 3, 5, 7), ((5, 6),)))
        store = self.made(*deeds)
        for many in reversed(range(len(deeds))):
            self.assertIsNone(store.back())
            self.check(store, *deeds[:many])
            self.assertEqual(store, self.made(*deeds[:many]))
        self.refused(store, NothingBack, {}, store.back)
        for deed in deeds:
            do_to(store, deed)
        self.check(store, *deeds)

    def test_other_deeds_behind_back(self):
        store = self.made(("fall", 2), ("write", (5, 6), None))
        store.back()
        store.write((6, 5), dice=(1, 1, 1))
        self.check(store, ("fall", 2), ("write", (6, 5), (1, 1, 1)))

    def test_back_is_no_deed_that_stands(self):
        store = self.made(("fall", 2))
        store.back()
        self.assertEqual((len(store), store.its_deeds()), (0, ()))


class LongTest(StoreTest):
    def test_60_deeds_stand(self):
        deeds = [("fall", 2), ("rebuild", 2, (0, 1, 5), ())] * 29 + [("post", "ann", 0), ("fall", 2)]
        store = self.made(*deeds)
        self.assertEqual(len(store), 60)
        for ask, things, named in ((store.fall, (0,), {}), (store.fall, (3,), {}), (store.fall, (None,), {}),
                                   (store.rebuild, (2, (0, 1, 5)), {}), (store.rebuild, (0, None), {"lies": None}),
                                   (store.more, (3, (0, 1, 5)), {}), (store.more, (0, None), {}),
                                   (store.write, ((1, 2),), {}), (store.write, (None,), {"dice": 3}),
                                   (store.post, ("ann", 1), {}), (store.post, ("Ann", 1), {}),
                                   (store.leave, ("ann",), {}), (store.leave, ("bob",), {})):
            self.refused(store, Long, {}, ask, *things, **named)
        self.check(store, *deeds)
        store.back()
        self.assertIsNone(store.leave("ann"))
        self.refused(store, Long, {}, store.fall, 2)

    def test_59_and_one_more(self):
        store = self.made(*[("fall", 2), ("rebuild", 2, (0, 1, 5), ())] * 29, ("fall", 2))
        self.assertEqual(store.rebuild(2, (0, 1, 5)), ())
        self.assertEqual(len(store), 60)


class HandedInTest(StoreTest):
    def test_what_is_told_is_the_same_again_and_all_of_tuples(self):
        store = self.made(("post", "ann", 2), ("write", (5, 6), None))
        row = (0,) * len(store.hidden())
        for ask in (store.houses, store.standing, lambda: store.kept(0), lambda: store.tellings(3, (0, 1)),
                    lambda: store.read((0, 1)), store.hidden, store.marks, lambda: store.seen(("ann",)),
                    lambda: store.rows(("ann",)), lambda: store.why(("ann",), row), store.its_deeds, store.log):
            told = ask()
            self.assertIs(type(told), tuple)
            self.assertEqual(ask(), told)
            self.assertFalse([part for part in told if type(part) not in (tuple, int, str)])

    def test_where_one_thing_alone_is_otherwise_the_refusal_is_that_of_this_thing(self):
        store = self.made(("fall", 2))
        right = (2, (0, 1, 5, 7, 10), ((5, 3),))
        for at, error in ((0, NoHouse), (1, NoGroup), (2, NoLies)):
            for thing in (None, "x", {}, [1, 2]):
                x, helpers, lies = with_part(right, at, thing)
                fields = {"x": thing} if at == 0 else {}
                self.refused(store, error, fields, store.rebuild, x, helpers, lies=lies)


if __name__ == "__main__":
    unittest.main()
