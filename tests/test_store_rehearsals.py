"""Promise [20]: rehearsals and the log."""

import copy
import unittest

from tests.odd_things import plain_things, spoiled
from tests.own_store import OwnStore, check_store, do_to
from toldpieces.errors import (
    Busy, Few, Fallen, Full, Long, NoDeed, NoDice, NoGroup, NoHouse, NoLies, NoName, NoNumber, NoSecrets, NoSpy,
    NothingBack, Standing, Taken,
)
from toldpieces.stores import Store

MADE_OF = ((11, 2, 3, 1), (0, 1, 2, 5, 7, 10), (1, 2), (3, 4, 5))
BEFORE = (("post", "ann", 2), ("fall", 7), ("write", (5, 6), None))
DEEDS = (("fall", 2), ("post", "bob", 7), ("rebuild", 7, (0, 1, 5, 10), ()), ("write", (7, 8), (1, 2, 3)),
         ("rebuild", 2, (0, 1, 5, 7, 10), ((7, 4),)), ("more", 3, (0, 1, 2, 5, 7), ((0, 1),)), ("leave", "ann"))
TOLD = (None, None, (), None, (7,), (0,), None)


class RehearsalTest(unittest.TestCase):
    def setUp(self):
        self.store = Store(*MADE_OF)
        for deed in BEFORE:
            do_to(self.store, deed)

    def unchanged(self):
        """The store and all its moments are as before any rehearsal."""
        for at in range(len(BEFORE) + 1):
            check_store(self, self.store, OwnStore(MADE_OF, BEFORE[:at]), at)
        check_store(self, self.store, OwnStore(MADE_OF, BEFORE))
        self.assertEqual((self.store.its_deeds(), len(self.store)), (BEFORE, 3))
        other = Store(*MADE_OF)
        for deed in BEFORE:
            do_to(other, deed)
        self.assertEqual(self.store, other)
        with self.assertRaises(NoSpy):
            self.store.seen(("bob",))

    def refused(self, error, fields, *things, **named):
        with self.assertRaises(error) as caught:
            self.store.rehearsed(*things, **named)
        self.assertIs(type(caught.exception), error)
        self.assertEqual(repr({name: getattr(caught.exception, name) for name in fields}), repr(fields))
        self.unchanged()


class DoneAndUndoneTest(RehearsalTest):
    def test_what_each_told(self):
        for deeds in (DEEDS, list(DEEDS)):
            for many in range(len(DEEDS) + 1):
                told = self.store.rehearsed(deeds[:many])
                self.assertEqual((told, type(told)), (TOLD[:many], tuple))
                self.unchanged()

    def test_tell_is_called_behind_each(self):
        calls = []

        def tell(store, told):
            calls.append(told)
            self.assertIs(store, self.store)
            many = len(calls)
            self.assertEqual(store.its_deeds(), BEFORE + DEEDS[:many])
            for at in range(3 + many + 1):
                check_store(self, store, OwnStore(MADE_OF, (BEFORE + DEEDS)[:at]), at)
            check_store(self, store, OwnStore(MADE_OF, BEFORE + DEEDS[:many]))
            self.assertEqual((len(store), store.log()), (3 + many, (("begin", 7),)))
            self.assertEqual(str(store), OwnStore(MADE_OF, BEFORE + DEEDS[:many]).text())

        self.assertEqual(self.store.rehearsed(DEEDS, tell=tell), TOLD)
        self.assertEqual(calls, list(TOLD))
        self.unchanged()
        self.assertEqual(self.store.log(), (("begin", 7), ("end", 7)))

    def test_tell_none_is_as_if_left_out(self):
        self.assertEqual(self.store.rehearsed(DEEDS, tell=None), TOLD)
        self.assertRaises(TypeError, self.store.rehearsed, DEEDS, None)

    def test_a_rehearsal_of_none(self):
        calls = []
        for deeds in ((), []):
            self.assertEqual(self.store.rehearsed(deeds, tell=lambda store, told: calls.append(told)), ())
        self.assertEqual(calls, [])
        self.assertEqual(self.store.log(), (("begin", 0), ("end", 0)) * 2)
        self.unchanged()

    def test_deeds_stand_behind_a_rehearsal(self):
        self.store.rehearsed(DEEDS)
        for deed in DEEDS:
            do_to(self.store, deed)
        self.assertEqual(self.store.its_deeds(), BEFORE + DEEDS)
        check_store(self, self.store, OwnStore(MADE_OF, BEFORE + DEEDS))
        self.store.back()
        check_store(self, self.store, OwnStore(MADE_OF, BEFORE + DEEDS[:-1]))

    def test_what_its_deeds_tells_can_be_rehearsed(self):
        fresh = Store(*MADE_OF)
        self.assertEqual(fresh.rehearsed(self.store.its_deeds()), (None, None, None))
        self.assertEqual(len(fresh), 0)

    def test_what_is_handed_in_is_unchanged(self):
        deeds = [list(deed) if at == 3 else deed for at, deed in enumerate(DEEDS)]
        before = copy.deepcopy(deeds)
        self.refused(NoDeed, {"number": 3}, deeds)
        self.assertEqual(deeds, before)

    def test_a_list_that_is_changed_while_it_is_rehearsed(self):
        for change in (lambda deeds: deeds.clear(), lambda deeds: deeds.append(("fall", 99)),
                       lambda deeds: deeds.insert(0, None), lambda deeds: deeds.reverse(),
                       lambda deeds: deeds.__setitem__(slice(0, 7), [None] * 7)):
            deeds = list(DEEDS)
            self.assertEqual(self.store.rehearsed(deeds, tell=lambda store, told: change(deeds)), TOLD)
            self.assertNotEqual(deeds, list(DEEDS))
            self.unchanged()

    def test_a_list_within_that_is_changed(self):
        x = [1]
        with self.assertRaises(NoHouse) as caught:
            self.store.rehearsed([("fall", 0), ("fall", x)], tell=lambda store, told: x.append(2))
        self.assertEqual((caught.exception.x, x), ([1], [1, 2]))
        self.unchanged()


class RefusedTest(RehearsalTest):
    def test_each_refusal_goes_through(self):
        for deed, error, fields in (
                (("fall", 3), NoHouse, {"x": 3}), (("fall", True), NoHouse, {"x": True}),
                (("fall", [1]), NoHouse, {"x": [1]}), (("fall", 7), Fallen, {"x": 7}),
                (("rebuild", 1, (2, 5, 10), ()), Standing, {"x": 1}), (("rebuild", 7, None, ()), NoGroup, {}),
                (("rebuild", 7, [1, 2, 5], ()), NoGroup, {}), (("rebuild", 7, (1, 2), ()), Few, {"least": 3}),
                (("rebuild", 7, (1, 2, 7), ()), Fallen, {"x": 7}), (("rebuild", 7, (1, 2, 5), None), NoLies, {}),
                (("more", 11, (1, 2, 5), ()), NoNumber, {"x": 11}), (("more", 7, (1, 2, 5), ()), Taken, {"x": 7}),
                (("more", 3, (1, 2, 5), ((1, 1),)), NoLies, {}), (("write", (1,), None), NoSecrets, {}),
                (("write", (1, 2), ()), NoDice, {}), (("post", "Ann", 0), NoName, {"name": "Ann"}),
                (("post", "ann", 3), NoHouse, {"x": 3}), (("leave", "bob"), NoSpy, {"name": "bob"}),
                (("leave", {"ann": 1}), NoSpy, {"name": {"ann": 1}})):
            calls = []
            self.refused(error, fields, (("fall", 0), deed, ("fall", 0)),
                         tell=lambda store, told: calls.append(told))
            self.assertEqual(calls, [None])
            self.assertEqual(self.store.log()[-2:], (("begin", 3), ("end", 1)))

    def test_full(self):
        self.refused(Full, {}, [("write", (1, 2), None)] * 4)
        self.assertEqual(self.store.log()[-1], ("end", 3))
        self.refused(Full, {}, [("more", x, (0, 1, 2), ()) for x in (3, 4, 6)])
        self.refused(Full, {}, [("post", name, 0) for name in ("a", "b", "c", "d")])

    def test_tell_that_raises(self):
        class Odd(Exception):
            pass

        for error in (Odd, KeyError, ValueError, StopIteration, KeyboardInterrupt, NoHouse):
            for many in range(1, 8):
                calls = []

                def tell(store, told):
                    calls.append(told)
                    if len(calls) == many:
                        raise error(7)

                with self.assertRaises(error):
                    self.store.rehearsed(DEEDS, tell=tell)
                self.assertEqual(tuple(calls), TOLD[:many])
                self.assertEqual(self.store.log()[-2:], (("begin", 7), ("end", many)))
                self.unchanged()
        self.store.rehearsed(DEEDS)
        self.assertIsNone(self.store.fall(0))

    def test_what_is_no_deed(self):
        odd = [None, (), ("fall",), ("fall", 0, 0), ("back",), ("back", 0), ["fall", 0], "fall 0", "fall", 0, True,
               ("Fall", 0), ("rebuild", 7, (0, 1, 2)), ("rebuild", 7), ("rebuild", 7, (0, 1, 2), (), None),
               ("more", 3, (0, 1, 2)), ("write", (1, 2)), ("write", (1, 2), None, None), ("post", "ann"), ("leave",),
               ("leave", "ann", 0), (None, 0), (0, "fall"), (["fall"], 0), (("fall",), 0), ({"fall": 0}, 0),
               {"fall": 0}, ("rehearsed", ()), ("houses",), ("log",), ("seen", ()), ("", 0), (True, 0)]
        odd += plain_things()
        for deed in (("fall", 0), ("rebuild", 7, (0, 1, 2), ()), ("write", (1, 2), None), ("post", "ann", 0)):
            odd += [thing for thing in spoiled(deed)
                    if type(thing) is not tuple or len(thing) != len(deed) or thing[0] != deed[0]]
        for thing in odd:
            for many in (0, 1, 3):
                calls = []
                self.refused(NoDeed, {"number": many}, [*DEEDS[:many], thing, ("fall", 99)],
                             tell=lambda store, told: calls.append(told))
                self.assertEqual(tuple(calls), TOLD[:many])
                self.assertEqual(self.store.log()[-2:], (("begin", many + 2), ("end", many)))

    def test_no_deed_comes_when_it_comes_to_be_done(self):
        self.refused(NoHouse, {"x": 99}, [("fall", 99), None])
        self.refused(NoDeed, {"number": 0}, [None, ("fall", 99)])
        self.refused(NoDeed, {"number": 1}, [("fall", 0), None, None])

    def test_what_is_no_list_or_tuple_or_too_long(self):
        for thing in plain_things() + ["fall 0", {"fall": 0}, [("leave", "x")] * 61, tuple([("fall", 0)] * 61),
                                       [None] * 61, list(DEEDS) * 9]:
            if type(thing) in (list, tuple) and len(thing) <= 60:
                continue
            self.refused(NoDeed, {"number": None}, thing)
            self.refused(NoDeed, {"number": None}, thing, tell=lambda store, told: self.fail())
        self.assertEqual(self.store.log(), ())

    def test_60_deeds_from_none(self):
        store = Store(*MADE_OF)
        deeds = [("fall", 0), ("rebuild", 0, (1, 2, 5), ())] * 30
        self.assertEqual(store.rehearsed(deeds), (None, ()) * 30)
        self.assertEqual((len(store), store.log()), (0, (("begin", 60), ("end", 60))))
        store.fall(7)
        self.assertRaises(Long, store.rehearsed, deeds)
        self.assertEqual(store.log()[-1], ("end", 59))
        self.assertEqual((len(store), store.standing()), (1, (0, 1, 2, 5, 10)))

    def test_no_deed_ahead_of_long(self):
        store = Store(*MADE_OF)
        for _ in range(30):
            store.fall(0)
            store.rebuild(0, (1, 2, 5))
        with self.assertRaises(NoDeed) as caught:
            store.rehearsed([("back",)])
        self.assertEqual(caught.exception.number, 0)
        self.assertRaises(Long, store.rehearsed, [("fall", 99)])
        self.assertRaises(Long, store.rehearsed, [("fall", 99), None])
        with self.assertRaises(NoDeed) as caught:
            store.rehearsed(None)
        self.assertIsNone(caught.exception.number)
        self.assertEqual(store.rehearsed([]), ())
        self.assertEqual(len(store), 60)


class BusyTest(RehearsalTest):
    def changing(self, store):
        """Whatever would change the store, rightly and wrongly handed in."""
        for things in ((0,), (7,), (99,), (None,), ([],)):
            yield lambda: store.fall(*things)
        yield lambda: store.rebuild(7, (0, 1, 5))
        yield lambda: store.rebuild(None, None, lies=None)
        yield lambda: store.more(3, (0, 1, 5))
        yield lambda: store.more([], {}, lies=7)
        yield lambda: store.write((1, 2))
        yield lambda: store.write(None, dice="x")
        yield lambda: store.post("eve", 0)
        yield lambda: store.post(None, None)
        yield lambda: store.leave("ann")
        yield lambda: store.leave([])
        yield lambda: store.back()
        for deeds in ((), DEEDS, [None], None, [("fall", 0)] * 61, "x"):
            yield lambda: store.rehearsed(deeds)
            yield lambda: store.rehearsed(deeds, tell=lambda store, told: self.fail())

    def test_within_tell_all_is_refused_that_would_change_it(self):
        def tell(store, told):
            before = (store.its_deeds(), store.standing(), store.log(), len(store))
            for ask in self.changing(store):
                self.assertRaises(Busy, ask)
            self.assertEqual((store.its_deeds(), store.standing(), store.log(), len(store)), before)

        self.assertEqual(self.store.rehearsed(DEEDS, tell=tell), TOLD)
        self.assertEqual(self.store.log(), (("begin", 7), ("end", 7)))
        self.unchanged()

    def test_busy_goes_through(self):
        self.refused(Busy, {}, DEEDS, tell=lambda store, told: store.fall(0))
        self.assertEqual(self.store.log(), (("begin", 7), ("end", 1)))
        self.assertIsNone(self.store.fall(0))

    def test_another_store_is_not_busy(self):
        other = Store(*MADE_OF)

        def tell(store, told):
            other.fall(0)
            self.assertEqual(other.rehearsed([("fall", 1)], tell=lambda a, b: self.assertRaises(Busy, store.back)),
                             (None,))
            other.back()

        self.store.rehearsed(DEEDS, tell=tell)
        self.assertEqual((len(other), len(other.log())), (0, 10))
        self.unchanged()

    def test_all_may_be_asked(self):
        def tell(store, told):
            row = (0,) * len(store.hidden())
            for spies in ((), ("ann",)):
                self.assertIs(store.knows(spies, row), True)
                self.assertEqual(store.why(spies, row)[0], "makes")
                self.assertIs(type(store.learned(spies, 0)), int)
                self.assertEqual(store.rows(spies), OwnStore(MADE_OF, store.its_deeds()).rows(spies))
            self.assertEqual(store, store)

        self.store.rehearsed(DEEDS, tell=tell)

    def test_not_busy_behind_it_however_it_ended(self):
        for deeds in (DEEDS, [None], [("fall", 99)], None):
            try:
                self.store.rehearsed(deeds)
            except (NoDeed, NoHouse):
                pass
            self.assertIsNone(self.store.fall(0))
            self.assertIsNone(self.store.back())
        for _ in BEFORE:
            self.store.back()
        self.assertRaises(NothingBack, self.store.back)


class LogTest(RehearsalTest):
    def test_its_last_10_rows(self):
        rows = []
        for many in range(8):
            self.store.rehearsed(DEEDS[:many])
            rows += [("begin", many), ("end", many)]
            told = self.store.log()
            self.assertEqual((told, type(told)), (tuple(rows[-10:]), tuple))
        self.assertRaises(NoDeed, self.store.rehearsed, [("fall", 0), None, None])
        rows += [("begin", 3), ("end", 1)]
        self.assertEqual(self.store.log(), tuple(rows[-10:]))
        self.unchanged()

    def test_within_tell_its_last_10_rows(self):
        for _ in range(5):
            self.store.rehearsed([])
        logs = []
        self.store.rehearsed([("fall", 0)], tell=lambda store, told: logs.append(store.log()))
        self.assertEqual(logs, [(("end", 0),) + (("begin", 0), ("end", 0)) * 4 + (("begin", 1),)])

    def test_none_at_first_and_none_of_deeds(self):
        self.assertEqual(self.store.log(), ())
        self.store.fall(0)
        self.store.back()
        self.assertEqual(self.store.log(), ())

    def test_back_leaves_the_log(self):
        self.store.rehearsed(DEEDS)
        self.store.back()
        self.assertEqual(self.store.log(), (("begin", 7), ("end", 7)))


if __name__ == "__main__":
    unittest.main()
