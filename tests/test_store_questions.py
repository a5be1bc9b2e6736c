"""Promises [21] and [23], and [3] as far as it speaks of them: what is asked of a store, now and at each moment."""

import copy
import itertools
import unittest

from tests.odd_things import plain_things, spoiled
from tests.own_store import OwnStore, check_spies, check_store, do_to, plain_store_made_of
from tests.sample_rows import dice_of, thrown_row
from tests.sample_things import own_tells, shapes_by, small_groups
from toldpieces.errors import (
    Few, Fallen, NoGroup, NoHouse, NoLies, NoMoment, NoNumber, NoRow, NoSpy, NoWrite,
)
from toldpieces.stores import Store

MADE_OF = ((11, 2, 3, 1), (0, 1, 2, 5, 7, 10), (1, 2), (3, 4, 5))
DEEDS = (("post", "ann", 2), ("fall", 7), ("write", (5, 6), None), ("post", "bob", 7), ("fall", 2),
         ("write", (7, 8), (1, 2, 3)), ("rebuild", 7, (0, 1, 5, 10), ()), ("more", 3, (0, 1, 5, 7, 10), ((0, 1),)),
         ("leave", "ann"), ("fall", 1))
NO_MOMENTS = (True, False, -1, 11, 10 ** 29, -(10 ** 29), "0", "", "now", (), (0,), [0], {}, {"at": 0})


class QuestionsTest(unittest.TestCase):
    def setUp(self):
        self.store = Store(*MADE_OF)
        for deed in DEEDS:
            do_to(self.store, deed)
        # Standing are 0, 3, 5, 7, 10; fallen 1 and 2.

    def refused(self, error, fields, ask, *things, **named):
        before, handed = self.store.its_deeds(), copy.deepcopy((things, named))
        with self.assertRaises(error) as caught:
            ask(*things, **named)
        self.assertIs(type(caught.exception), error)
        self.assertEqual(repr({name: getattr(caught.exception, name) for name in fields}), repr(fields))
        self.assertEqual((self.store.its_deeds(), things, named), (before, *handed))


class MomentsTest(QuestionsTest):
    def test_each_question_now_and_at_each_moment(self):
        check_store(self, self.store, OwnStore(MADE_OF, DEEDS))
        for at in range(len(DEEDS) + 1):
            own = OwnStore(MADE_OF, DEEDS[:at])
            check_store(self, self.store, own, at)
            for spies in small_groups(sorted(own.saw), 2):
                check_spies(self, self.store, own, spies, at)
        for spies in small_groups(("ann", "bob"), 2):
            check_spies(self, self.store, OwnStore(MADE_OF, DEEDS), spies)

    def test_at_none_is_now(self):
        store = self.store
        self.assertEqual(store.houses(at=None), store.houses(at=10))
        self.assertEqual(store.standing(at=None), (0, 3, 5, 7, 10))
        self.assertEqual(store.kept(0, at=None), store.kept(0))
        self.assertEqual(store.tellings(0, (0, 3), at=None), store.tellings(0, (0, 3)))
        self.assertEqual(store.read((0, 3), at=None), store.read((0, 3)))
        self.assertEqual(store.writes(at=None), 2)
        self.assertEqual(store.hidden(at=None), store.hidden())
        self.assertEqual(store.marks(at=None), store.marks())
        self.assertEqual(store.seen(("ann",), at=None), store.seen(("ann",)))
        self.assertEqual(store.rows(("ann",), at=None), store.rows(("ann",)))
        row = (0,) * len(store.hidden())
        self.assertEqual(store.knows(("ann",), row, at=None), store.knows(("ann",), row))
        self.assertEqual(store.why(("ann",), row, at=None), store.why(("ann",), row))
        self.assertEqual(store.learned(("ann",), 0, at=None), store.learned(("ann",), 0))

    def test_no_moment_ahead_of_other_refusals(self):
        store = self.store
        row = (0,) * len(store.hidden())
        right = [(store.houses, ()), (store.standing, ()), (store.kept, (0,)), (store.tellings, (0, (0, 3))),
                 (store.read, ((0, 3),)), (store.writes, ()), (store.hidden, ()), (store.marks, ()),
                 (store.seen, (("ann",),)), (store.rows, (("ann",),)), (store.knows, (("ann",), row)),
                 (store.why, (("ann",), row)), (store.learned, (("ann",), 0))]
        for ask, things in right:
            for at in NO_MOMENTS + tuple(plain_things()):
                if at is None or type(at) is int and 0 <= at <= 10:
                    continue
                self.refused(NoMoment, {"at": at}, ask, *things, at=at)
                for thing in (None, [], "x", 99):
                    self.refused(NoMoment, {"at": at}, ask, *[thing for _ in things], at=at)
        self.refused(NoMoment, {"at": 11}, store.read, None, lies=None, at=11)

    def test_len_is_a_moment_and_one_more_is_none(self):
        store = Store(*MADE_OF)
        self.assertEqual(store.houses(at=0), MADE_OF[1])
        self.assertRaises(NoMoment, store.houses, at=1)
        store.fall(0)
        self.assertEqual(store.standing(at=1), (1, 2, 5, 7, 10))
        self.assertRaises(NoMoment, store.houses, at=2)
        store.back()
        self.assertRaises(NoMoment, store.houses, at=1)

    def test_at_is_handed_in_by_its_name(self):
        for ask in (self.store.houses, self.store.standing, self.store.writes, self.store.hidden, self.store.marks):
            self.assertRaises(TypeError, ask, 0)
        self.assertRaises(TypeError, self.store.kept, 0, 0)
        self.assertRaises(TypeError, self.store.seen, (), 0)
        self.assertRaises(TypeError, self.store.read, (0, 3), ())

    def test_what_was_there_at_a_moment(self):
        self.refused(NoHouse, {"x": 3}, self.store.kept, 3, at=7)
        self.refused(Fallen, {"x": 7}, self.store.kept, 7, at=6)
        self.refused(NoSpy, {"name": "bob"}, self.store.seen, ("bob",), at=3)
        self.refused(NoSpy, {"name": "ann"}, self.store.seen, ("ann",), at=0)
        self.refused(NoWrite, {"number": 2}, self.store.learned, ("ann",), 2, at=5)
        self.refused(NoRow, {}, self.store.knows, ("ann",), (0,) * len(self.store.hidden()), at=5)
        self.assertEqual(self.store.seen(("bob",), at=4), ())


class AskedTest(QuestionsTest):
    def test_kept(self):
        self.assertEqual(self.store.kept(0), (1, 2, 3))
        for x in (1, 2):
            self.refused(Fallen, {"x": x}, self.store.kept, x)
        for x in (4, 11, -1, True, False, "0", None, (0,), [0], {"0": 0}):
            self.refused(NoHouse, {"x": x}, self.store.kept, x)
        for thing in plain_things():
            if type(thing) is not int or thing not in self.store.houses():
                self.refused(NoHouse, {"x": thing}, self.store.kept, thing)

    def test_tellings(self):
        own = OwnStore(MADE_OF, DEEDS)
        for x in range(11):
            for helpers in small_groups((0, 3, 5, 7, 10), 5):
                told = self.store.tellings(x, helpers)
                self.assertEqual(told, tuple(own_tells(own.shape, own.kept(helper), x) for helper in helpers))
                self.assertIs(type(told), tuple)

    def test_tellings_refusals(self):
        ask = self.store.tellings
        for helpers in (None, (), (0, 3), (3, 0), (4,), (1,)):
            for x in (11, -1, True, False, None, "0", (0,), [0], 10 ** 29):
                self.refused(NoNumber, {"x": x}, ask, x, helpers)
        for helpers, error, fields in (((3, 0), NoGroup, {}), ((0, 0), NoGroup, {}), ([0, 3], NoGroup, {}),
                                       ((0, 11), NoGroup, {}), ((True, 3), NoGroup, {}), (None, NoGroup, {}),
                                       ((0, 4), NoHouse, {"x": 4}), ((1, 2, 4, 6), NoHouse, {"x": 4}),
                                       ((0, 1, 2), Fallen, {"x": 1}), ((2,), Fallen, {"x": 2})):
            for x in (0, 1, 4):
                self.refused(error, fields, ask, x, helpers)
        for thing in plain_things():
            if type(thing) is not int or thing not in range(11):
                self.refused(NoNumber, {"x": thing}, ask, thing, (0, 3))
            if thing not in ((), (0,)):
                self.refused(NoGroup, {}, ask, 0, thing)

    def test_read_refusals(self):
        ask = self.store.read
        for houses, error, fields in (((3, 0), NoGroup, {}), ((0, 0), NoGroup, {}), ([0, 3], NoGroup, {}),
                                      ((0, 11), NoGroup, {}), ((0, True), NoGroup, {}), (None, NoGroup, {}),
                                      ({}, NoGroup, {}), ((0, 4), NoHouse, {"x": 4}), ((1, 4), NoHouse, {"x": 4}),
                                      ((1,), Fallen, {"x": 1}), ((0, 1, 2), Fallen, {"x": 1}), ((), Few, {"least": 2}),
                                      ((0,), Few, {"least": 2}), ((10,), Few, {"least": 2})):
            self.refused(error, fields, ask, houses)
            self.refused(error, fields, ask, houses, lies=None)
        for thing in plain_things():
            if thing not in ((), (0,)):
                self.refused(NoGroup, {}, ask, thing)

    def test_no_lies(self):
        ask = self.store.read
        for houses, many in (((0, 3), 0), ((0, 3, 5), 0), ((0, 3, 5, 7), 1), ((0, 3, 5, 7, 10), 1)):
            lies = tuple((x, (0, 0, 1)) for x in houses)
            self.refused(NoLies, {}, ask, houses, lies=lies[:many + 1])
            self.assertEqual(ask(houses, lies=lies[:many]), ((7, 8), houses[:many]))
        houses = (0, 3, 5, 7)
        for lie in ((0, (0, 0, 0)), (0, (0, 0)), (0, (0, 0, 1, 0)), (0, (0, 0, 11)), (0, (0, -1, 0)), (0, (0, True, 0)),
                    (0, [0, 0, 1]), (10, (0, 0, 1)), (4, (0, 0, 1)), (1, (0, 0, 1)), (False, (0, 0, 1)), (0, 1),
                    [0, (0, 0, 1)], (0,), (0, (0, 0, 1), 0), None, 0, "0", ("0", (0, 0, 1)), ((0,), (0, 0, 1)),
                    (0, None), (0, ()), ([0], (0, 0, 1))):
            self.refused(NoLies, {}, ask, houses, lies=(lie,))
        for lies in ([(0, (0, 0, 1))], [], {}, None, 0, "", (0, (0, 0, 1)), {"0": (0, 0, 1)}):
            self.refused(NoLies, {}, ask, houses, lies=lies)
        for thing in plain_things():
            if thing != ():
                self.refused(NoLies, {}, ask, houses, lies=thing)
        for lie in spoiled((3, (0, 0, 1))):
            self.refused(NoLies, {}, ask, houses, lies=(lie,))
        for row in spoiled((0, 0, 1)):
            self.refused(NoLies, {}, ask, houses, lies=((3, row),))

    def test_lies_rise_and_are_of_unlike_houses(self):
        store = Store((11, 1, 2, 0), tuple(range(6)), (6, 7), ())
        for lies in (((1, (0, 1)), (0, (0, 1))), ((1, (0, 1)), (1, (0, 2))), ((1, (0, 1)), (1, (0, 1)))):
            self.assertRaises(NoLies, store.read, (0, 1, 2, 3, 4), lies=lies)
        self.assertEqual(store.read((0, 1, 2, 3, 4), lies=((1, (0, 1)), (3, (9, 0)))), ((6, 7), (1, 3)))

    def test_read_with_liars_of_all_shapes(self):
        for shape in shapes_by(11):
            p, k, d, l = shape
            for many in range(d + 1, 9):
                dice = dice_of("read", shape, many)
                made_of = plain_store_made_of(shape, many, dice)
                store = Store(*made_of)
                store.fall(made_of[1][-1])
                houses = made_of[1][:-1]
                for liars in small_groups(houses, (len(houses) - k) // 2):
                    lies = []
                    for x in liars:
                        row = list(thrown_row(dice, p, d))
                        row[dice.randrange(d)] = dice.randrange(1, p)
                        lies.append((x, tuple(row)))
                    self.assertEqual(store.read(houses, lies=tuple(lies)), (made_of[2], liars))

    def test_read_by_any_houses(self):
        for many in range(2, 6):
            for houses in itertools.combinations((0, 3, 5, 7, 10), many):
                told = self.store.read(houses)
                self.assertEqual(told, ((7, 8), ()))
                self.assertEqual([type(told), *map(type, told)], [tuple] * 3)

    def test_hidden_and_marks_through_several_writes(self):
        self.assertEqual(self.store.hidden(), (1, 2, 3, 4, 5, 5, 6, 7, 8, 1, 2, 3))
        secrets, dice = ((1, 1), (1, 2)), ((0, 0), (0, 1), (0, 2))
        wanted = [("secret", 0, place) for place in secrets] + [("die", 0, place) for place in dice]
        wanted += [("secret", 1, place) for place in secrets] + [("secret", 2, place) for place in secrets]
        wanted += [("die", 2, place) for place in dice]
        self.assertEqual(self.store.marks(), tuple(wanted))
        self.assertEqual(self.store.marks(at=5), tuple(wanted[:7]))


class WholeStoreTest(QuestionsTest):
    def test_its_deeds_and_len(self):
        told = self.store.its_deeds()
        self.assertEqual((told, type(told), len(self.store)), (DEEDS, tuple, 10))
        self.assertEqual({type(deed) for deed in told}, {tuple})
        store = Store(*MADE_OF)
        self.assertEqual((store.its_deeds(), len(store)), ((), 0))
        store.fall(0)
        store.rebuild(0, (1, 2, 5))
        store.more(3, (1, 2, 5))
        store.write((1, 2))
        store.write((1, 2), dice=(0, 0, 0))
        store.post("ann", 3)
        store.leave("ann")
        self.assertEqual(store.its_deeds(), (("fall", 0), ("rebuild", 0, (1, 2, 5), ()), ("more", 3, (1, 2, 5), ()),
                                             ("write", (1, 2), None), ("write", (1, 2), (0, 0, 0)), ("post", "ann", 3),
                                             ("leave", "ann")))

    def test_stores_that_were_made_and_led_alike(self):
        other = Store(*MADE_OF)
        for deed in DEEDS:
            self.assertFalse(self.store == other)
            self.assertTrue(self.store != other)
            do_to(other, deed)
        self.assertTrue(self.store == other)
        self.assertFalse(self.store != other)
        other.rehearsed([("fall", 0)])
        other.post("eve", 0)
        other.back()
        self.assertTrue(self.store == other)
        other.back()
        self.assertFalse(self.store == other)

    def test_stores_made_otherwise(self):
        shape, xs, secrets, dice = MADE_OF
        store = Store(*MADE_OF)
        self.assertEqual(store, Store(*MADE_OF))
        for other in (Store((13, 2, 3, 1), xs, secrets, dice), Store(shape, xs[1:], secrets, dice),
                      Store(shape, xs, (1, 3), dice), Store(shape, xs, secrets, (3, 4, 6)),
                      Store((11, 2, 2, 0), xs, (1, 2, 3), ())):
            self.assertFalse(store == other)
            self.assertFalse(other == store)

    def test_alike_in_all_but_the_deeds(self):
        one, other = Store(*MADE_OF), Store(*MADE_OF)
        one.fall(0)
        one.rebuild(0, (1, 2, 5))
        self.assertEqual(one.standing(), other.standing())
        self.assertFalse(one == other)
        other.fall(0)
        other.rebuild(0, (1, 2, 7))
        self.assertFalse(one == other)

    def test_a_house_more_is_no_house_it_was_made_with(self):
        shape, xs, secrets, dice = MADE_OF
        one, other = Store(*MADE_OF), Store(shape, (0, 1, 2, 3, 5, 7, 10), secrets, dice)
        one.more(3, (0, 1, 2))
        self.assertEqual(one.houses(), other.houses())
        self.assertFalse(one == other)

    def test_to_nothing_else(self):
        for thing in plain_things() + [MADE_OF, DEEDS, OwnStore(MADE_OF), Store, str(self.store), len(self.store)]:
            self.assertIs(self.store == thing, False)
            self.assertIs(self.store != thing, True)

    def test_str(self):
        self.assertEqual(str(self.store), "7 houses by 11, 5 stand, 2 writes")
        for at in range(len(DEEDS) + 1):
            self.assertEqual(str(self.store), OwnStore(MADE_OF, self.store.its_deeds()).text())
            if at < len(DEEDS):
                self.store.back()
        self.assertEqual(str(self.store), "6 houses by 11, 6 stand, 0 writes")
        self.store.write((1, 2))
        self.assertEqual(str(self.store), "6 houses by 11, 6 stand, 1 writes")
        for x in MADE_OF[1]:
            self.store.fall(x)
        self.assertEqual(str(self.store), "6 houses by 11, 0 stand, 1 writes")
        self.assertEqual(str(Store((211, 1, 1, 0), (0, 210), (4,), ())), "2 houses by 211, 2 stand, 0 writes")

    def test_what_the_interface_lists_stands_in_the_class_itself(self):
        for name in ("fall", "rebuild", "more", "write", "post", "leave", "back", "rehearsed", "log", "houses",
                     "standing", "kept", "tellings", "read", "writes", "hidden", "marks", "seen", "rows", "knows",
                     "why", "learned", "its_deeds", "__len__", "__eq__", "__str__"):
            self.assertIn(name, vars(Store))


if __name__ == "__main__":
    unittest.main()
