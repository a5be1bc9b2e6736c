"""Promise [25], and [1], [2] and [3] as far as they speak of toldpieces.desks: a store led by lines of text."""

import unittest

from tests.odd_things import plain_things
from tests.own_store import OwnStore, check_store, do_to, plain_store_made_of, thrown_deed
from tests.sample_rows import dice_of
from tests.sample_things import shapes_by
from toldpieces import errors
from toldpieces.desks import Desk
from toldpieces.stores import Store

MADE_OF = ((11, 2, 3, 1), (0, 1, 2, 5, 7, 10), (1, 2), (3, 4, 5))


def line_of(deed):
    """The deed as a line."""
    word, *things = deed
    if word in ("rebuild", "more"):
        x, helpers, lies = things
        words = [word, str(x), ",".join(map(str, helpers))]
        return " ".join(words + ([",".join(f"{helper}:{rest}" for helper, rest in lies)] if lies else []))
    if word == "write":
        secrets, dice = things
        words = [word, *map(str, secrets)] + ([] if dice is None else ["/", *map(str, dice)])
        return " ".join(words)
    return " ".join(map(str, deed))


class DeskTest(unittest.TestCase):
    def setUp(self):
        self.store = Store(*MADE_OF)
        self.desk = Desk(self.store)

    def said(self, *lines):
        for line in lines:
            self.assertEqual(self.desk.say(line)[:4], "done", line)

    def check(self, line, answer, *deeds):
        """The line gets this answer, and the store is then as these deeds leave it."""
        told = self.desk.say(line)
        self.assertEqual((told, type(told)), (answer, str), line)
        self.assertEqual(self.store.its_deeds(), deeds)
        check_store(self, self.store, OwnStore(MADE_OF, deeds))

    def unchanged(self, line, answer):
        """The line gets this answer, and changes nothing."""
        before = self.store.its_deeds(), self.store.standing(), self.store.log()
        told = self.desk.say(line)
        self.assertEqual((told, type(told)), (answer, str), repr(line)[:99])
        self.assertEqual((self.store.its_deeds(), self.store.standing(), self.store.log()), before)


class DeedsTest(DeskTest):
    def test_each_deed(self):
        deeds = [("fall", 2)]
        self.check("fall 2", "done", *deeds)
        deeds.append(("rebuild", 2, (0, 1, 10), ()))
        self.check("rebuild 2 0,1,10", "done", *deeds)
        deeds += [("fall", 0), ("rebuild", 0, (1, 2, 5, 7, 10), ((7, 4),))]
        self.said("fall 0")
        self.check("rebuild 0 1,2,5,7,10 7:4", "done, lied 7", *deeds)
        deeds.append(("more", 3, (0, 1, 2), ()))
        self.check("more 3 0,1,2", "done", *deeds)
        deeds.append(("more", 4, (0, 1, 2, 3, 5, 7, 10), ((3, 10), (10, 1))))
        self.check("more 4 0,1,2,3,5,7,10 3:10,10:1", "done, lied 3,10", *deeds)
        deeds.append(("write", (8, 9), None))
        self.check("write 8 9", "done", *deeds)
        deeds.append(("write", (0, 10), (1, 2, 3)))
        self.check("write 0 10 / 1 2 3", "done", *deeds)
        deeds.append(("post", "ann", 4))
        self.check("post ann 4", "done", *deeds)
        deeds.append(("leave", "ann"))
        self.check("leave ann", "done", *deeds)
        while deeds:
            deeds.pop()
            self.check("back", "done", *deeds)
        self.check("back", "no NothingBack")

    def test_dice_of_none(self):
        self.unchanged("write 1 2 /", "no NoDice")
        self.store = Store((11, 1, 2, 0), (0, 1, 2), (4, 5), ())
        self.desk = Desk(self.store)
        self.assertEqual(self.desk.say("write 1 2 /"), "done")
        self.assertEqual(self.desk.say("write 3 4"), "done")
        self.assertEqual(self.store.its_deeds(), (("write", (1, 2), ()), ("write", (3, 4), None)))
        self.unchanged("write 1 2 / 0", "no NoDice")

    def test_one_helper_and_one_number(self):
        self.store = Store((11, 1, 1, 0), (0, 1, 2), (4,), ())
        self.desk = Desk(self.store)
        self.said("fall 0", "rebuild 0 1", "more 10 2", "write 7", "write 8 /")
        self.assertEqual(self.store.its_deeds(), (("fall", 0), ("rebuild", 0, (1,), ()), ("more", 10, (2,), ()),
                                                  ("write", (7,), None), ("write", (8,), ())))
        self.assertEqual([self.desk.say(f"kept {x}") for x in (0, 1, 10)], ["8", "8", "8"])

    def test_the_very_store_also_where_it_is_done_to_beside_the_desk(self):
        other = Desk(self.store)
        self.store.fall(2)
        self.assertEqual((self.desk.say("standing"), other.say("standing")), ("0,1,5,7,10",) * 2)
        self.assertEqual(self.desk.say("fall 5"), "done")
        self.assertEqual(self.store.standing(), (0, 1, 7, 10))
        self.assertEqual(other.say("back"), "done")
        self.store.back()
        self.assertEqual(self.desk.say("back"), "no NothingBack")
        self.assertEqual(self.store, Store(*MADE_OF))

    def test_busy_within_tell(self):
        answers = []

        def tell(store, told):
            for line in ("fall 0", "fall 99", "rebuild 2 0,1,5", "more 3 0,1,5", "write 1 2", "write 1", "post ann 0",
                         "leave ann", "back"):
                self.unchanged(line, "no Busy")
            for line in ("fall", "fall x", "", None):
                self.unchanged(line, "no line")
            answers.append((self.desk.say("standing"), self.desk.say("kept 0"), self.desk.say("writes")))

        self.store.rehearsed([("fall", 2), ("write", (0, 0), (0, 0, 1))], tell=tell)
        self.assertEqual(answers, [("0,1,5,7,10", "3 4 5", "0"), ("0,1,5,7,10", "0 0 1", "1")])
        self.assertEqual(self.desk.say("fall 0"), "done")


class QuestionsTest(DeskTest):
    def test_kept(self):
        for x in MADE_OF[1]:
            self.unchanged(f"kept {x}", " ".join(map(str, self.store.kept(x))))
        self.unchanged("kept 0", "3 4 5")

    def test_standing(self):
        self.unchanged("standing", "0,1,2,5,7,10")
        for x in MADE_OF[1][:-1]:
            self.said(f"fall {x}")
        self.unchanged("standing", "10")
        self.said("fall 10")
        self.unchanged("standing", "-")

    def test_read(self):
        self.unchanged("read 0,1", "1 2")
        self.said("write 10 0")
        self.unchanged("read 0,1,2,5,7,10", "10 0")

    def test_seen(self):
        self.said("fall 7", "post bob 7", "post ann 2")
        self.unchanged("seen bob", "-")
        self.unchanged("seen ann", "2@0")
        self.said("write 1 2 / 3 4 5", "post ann 10", "rebuild 7 0,1,2")
        self.unchanged("seen ann", "2@0,2@1,10@1")
        self.unchanged("seen ann,bob", "2@0,2@1,10@1,7@1")
        self.said("leave bob")
        self.unchanged("seen bob", "7@1")

    def test_learned_and_writes(self):
        self.unchanged("writes", "0")
        self.said("post ann 2")
        self.unchanged("learned ann 0", "0")
        self.said("post ann 5", "write 1 2 / 3 4 5")
        self.unchanged("learned ann 0", "2")
        self.unchanged("learned ann 1", "0")
        self.said("post bob 5")
        self.unchanged("learned ann,bob 1", "0")
        self.unchanged("writes", "1")
        self.said("write 1 2", "write 1 2", "write 1 2")
        self.unchanged("writes", "4")


class RefusedTest(DeskTest):
    def test_each_refusal_of_the_store(self):
        self.said("fall 2", "fall 7", "post ann 0", "leave ann")
        for line, name in (
                ("fall 2", "Fallen"), ("fall 3", "NoHouse"), ("fall 11", "NoHouse"), ("fall 999999", "NoHouse"),
                ("rebuild 3 0,1,5", "NoHouse"), ("rebuild 0 1,5,10", "Standing"), ("rebuild 2 1,0,5", "NoGroup"),
                ("rebuild 2 0,1,11", "NoGroup"), ("rebuild 2 0,0,1", "NoGroup"), ("rebuild 2 0,1,3", "NoHouse"),
                ("rebuild 2 0,1,2", "Fallen"), ("rebuild 2 0,1,7", "Fallen"), ("rebuild 2 0,1", "Few"),
                ("rebuild 2 0", "Few"), ("rebuild 2 0,1,5 0:1", "NoLies"), ("rebuild 2 0,1,5,10 0:1", "NoLies"),
                ("more 3 0,1,5,10 0:0", "NoLies"), ("more 3 0,1,5 5:1,0:1", "NoLies"), ("more 3 0,1 0:1", "Few"),
                ("more 11 0,1,5", "NoNumber"), ("more 0 0,1,5", "Taken"), ("more 2 0,1,5", "Taken"),
                ("more 3 5,1", "NoGroup"), ("more 3 0,1,3", "NoHouse"), ("more 3 0,1,2", "Fallen"),
                ("write 1", "NoSecrets"), ("write 1 2 3", "NoSecrets"), ("write 1 11", "NoSecrets"),
                ("write 1 / 1 2 3", "NoSecrets"), ("write 1 2 / 3", "NoDice"), ("write 1 2 / 3 4 11", "NoDice"),
                ("write 1 2 /", "NoDice"), ("write 1 /", "NoSecrets"), ("post ann 3", "NoHouse"),
                ("leave ann", "NoSpy"), ("leave bob", "NoSpy"), ("kept 2", "Fallen"), ("kept 3", "NoHouse"),
                ("kept 11", "NoHouse"), ("read 1,0", "NoGroup"), ("read 0,11", "NoGroup"), ("read 0,3", "NoHouse"),
                ("read 0,2", "Fallen"), ("read 0", "Few"), ("seen bob", "NoSpy"), ("seen bob,ann", "NoGroup"),
                ("seen ann,ann", "NoGroup"), ("seen ann,bob", "NoSpy"), ("learned ann 1", "NoWrite"),
                ("learned ann 999999", "NoWrite"), ("learned bob 9", "NoSpy"), ("learned bob,ann 9", "NoGroup")):
            self.unchanged(line, f"no {name}")
            self.assertTrue(hasattr(errors, name))

    def test_lies_that_do_not_rise(self):
        self.store = Store((11, 1, 1, 0), (0, 1, 2, 3, 4, 5), (6,), ())
        self.desk = Desk(self.store)
        self.said("fall 5")
        for lies in ("1:1,0:1", "1:1,1:2", "1:1,1:1", "0:1,1:1,2:1", "5:1", "0:11", "9:1", "0:0", "0:1,1:0"):
            self.unchanged(f"rebuild 5 0,1,2,3,4 {lies}", "no NoLies")
        self.assertEqual(self.desk.say("rebuild 5 0,1,2,3,4 0:1,3:10"), "done, lied 0,3")

    def test_full_and_long(self):
        self.said("more 3 0,1,2", "more 4 0,1,2", *["write 1 2"] * 4)
        self.said("post a 0", "post b 0", "post c 0", "post d 0")
        self.unchanged("more 6 0,1,2", "no Full")
        self.unchanged("write 1 2", "no Full")
        self.unchanged("post e 0", "no Full")
        self.said(*["post a 1"] * 50)
        for line in ("post a 0", "fall 0", "fall 99", "rebuild 0 1", "more 6 0,1,2", "write 1", "leave a", "leave z"):
            self.unchanged(line, "no Long")
        self.assertEqual(self.desk.say("back"), "done")


class NoLineTest(DeskTest):
    def test_words_too_few_or_too_many(self):
        for line in ("", "fall", "fall 2 2", "rebuild", "rebuild 2", "rebuild 2 0,1,5 0:1 0:1", "more", "more 3",
                     "more 3 0,1,5 0:1 5", "write", "write /", "write / 1 2 3", "post", "post ann", "post 2",
                     "post ann 2 2", "leave", "leave ann ann", "back 1", "back back", "kept", "kept 0 1", "standing 0",
                     "read", "read 0 1", "read 0,1 0:1", "seen", "seen ann bob", "learned ann", "learned 0", "learned",
                     "learned ann 0 0", "writes 0", "houses", "hidden", "marks", "rows ann", "knows ann 0", "why ann 0",
                     "rehearsed", "log", "tellings 0 1", "its_deeds", "len", "str", "2", "fall2", "no line", "done"):
            self.unchanged(line, "no line")

    def test_blanks_more(self):
        self.store.fall(2)
        self.store.post("ann", 0)
        for line in ("fall 0", "rebuild 2 0,1,5", "more 3 0,1,2,5,10 0:1", "write 1 2", "write 1 2 / 3 4 5",
                     "write 1 2 /", "post ann 1", "leave ann", "back", "kept 0", "standing", "read 0,1", "seen ann",
                     "learned ann 0", "writes"):
            for other in (" " + line, line + " ", line.replace(" ", "  "), line.replace(" ", "\t"), line + "\n",
                          "\n" + line, line + "\r", line.replace(" ", "\n"), line.upper(), line.title(), line + "\x00",
                          line.replace(",", ", "), line.replace(",", " ,"), line.replace(":", " : "),
                          line.replace(":", ": "), line.replace(" ", "\xa0"), line + "\t", line + "\n" + line):
                if other != line:
                    self.unchanged(other, "no line")

    def test_numbers(self):
        self.store.post("ann", 0)
        for number in ("1000000", "0000001", "00", "01", "-1", "+1", "1.0", "x", "", "1_0", "0x1", "1e1", "\u0661",
                       "\xb2", "one", "1,", ",1", "1:1", "9" * 30, "9" * 1000, "0" * 30, "/", "-0", "--", "~"):
            for line in ("fall N", "rebuild N 0,1,5", "more N 0,1,5", "rebuild 0 N,1,5", "more 3 0,1,N", "write N 2",
                         "write 1 N 2", "write 1 2 / N 4 5", "write 1 2 / 3 4 N", "post ann N", "kept N", "read 0,N",
                         "read N,1", "learned ann N", "rebuild 0 1,2,5 N:1", "rebuild 0 1,2,5 1:N", "more 3 0,1,5 N:N"):
                if number == "/" and line == "write 1 N 2":
                    continue
                self.unchanged(line.replace("N", number), "no line")

    def test_numbers_of_six_figures_are_let(self):
        self.store.post("ann", 0)
        for line, name in (("fall N", "NoHouse"), ("rebuild N 0", "NoHouse"), ("more N 0", "NoNumber"),
                           ("rebuild 0 N", "Standing"), ("more 3 N", "NoGroup"), ("write N", "NoSecrets"),
                           ("write 1 2 / N", "NoDice"), ("post ann N", "NoHouse"), ("kept N", "NoHouse"),
                           ("read N", "NoGroup"), ("learned ann N", "NoWrite"), ("more 3 0,1,2 N:N", "NoLies")):
            for number in ("100000", "999999", "12", "11"):
                self.unchanged(line.replace("N", number), f"no {name}")

    def test_names(self):
        for name in ("Ann", "ANN", "aNn", "abcdefghi", "ann1", "1", "a-b", "a_b", "\xe4", "", "-", "ann,", ",ann",
                     "ann,,bob", "a.b", "ann:bob"):
            for line in (f"post {name} 0", f"leave {name}", f"seen {name}", f"learned {name} 0", f"seen ann,{name}"):
                self.unchanged(line, "no line")
        self.unchanged("post ann,bob 0", "no line")
        self.unchanged("leave ann,bob", "no line")
        self.check("post abcdefgh 0", "done", ("post", "abcdefgh", 0))

    def test_none_between_commas(self):
        self.store.fall(2)
        for houses in ("0,,1,5", ",0,1,5", "0,1,5,", ",", ",,", "0;1;5", "0.1.5", "(0,1,5)", "0-5", "-"):
            for line in ("rebuild 2 N", "more 3 N", "read N"):
                self.unchanged(line.replace("N", houses), "no line")

    def test_lies(self):
        self.store.fall(2)
        for lies in ("0", "0:", ":1", "0:1:1", "0::1", ":", "0:1,", ",0:1", "0:1,,5:1", "0:1,5", "0=1", "0;1", "0,1",
                     "0:-1", "0:+1", "00:1", "0:01", "-", "x:1", "0:x", "0:1,5:", "0:1:"):
            self.unchanged(f"rebuild 2 0,1,5,7,10 {lies}", "no line")
            self.unchanged(f"more 3 0,1,5,7,10 {lies}", "no line")

    def test_strokes(self):
        for line in ("write 1 2 / 3 4 5 /", "write 1 2 / / 3 4 5", "write 1 2 // 3 4 5", "write 1 2 /3 4 5",
                     "write 1 2/ 3 4 5", "write 1 2/3 4 5", "write /", "write / 1 2", "write / 1 2 / 3",
                     "write 1 2 \\ 3", "write 1 2 | 3", "write 1 / 2 / 3", "write 1 2 / 3 4 5 / ", "write 1 2 / ",
                     "write 1,2", "write 1 2 / 3,4,5", "/", "/ 1"):
            self.unchanged(line, "no line")

    def test_whatever_it_is(self):
        for thing in plain_things() + [["fall 2"], ("fall", 2), {"fall": "2"}, b"fall 2", "fall 2" * 250, " " * 1500,
                                       "write" + " 1" * 740 + " x", "seen " + "a," * 700, "\n" * 1500]:
            if thing == "fall 3":
                continue
            self.unchanged(thing, "no line")
        self.unchanged("fall 3", "no NoHouse")
        self.unchanged("write" + " 1" * 740, "no NoSecrets")
        self.unchanged("read " + "1," * 700 + "1", "no NoGroup")


class LedTest(unittest.TestCase):
    def test_stores_led_by_lines(self):
        for shape in shapes_by(11):
            dice = dice_of("desk", shape)
            made_of = plain_store_made_of(shape, min(8, shape[2] + 3), dice)
            store, other, own = Store(*made_of), Store(*made_of), OwnStore(made_of)
            desk = Desk(store)
            for step in range(40):
                if dice.randrange(8) == 0 and own.deeds:
                    self.assertEqual(desk.say("back"), "done")
                    other.back()
                    own = OwnStore(made_of, own.deeds[:-1])
                else:
                    deed = thrown_deed(dice, own)
                    own.do(deed)
                    do_to(other, deed)
                    wanted = "done, lied " + ",".join(map(str, own.told[-1])) if own.told[-1] else "done"
                    self.assertEqual(desk.say(line_of(deed)), wanted)
                self.check(desk, store, own)
                self.assertEqual(store, other)

    def check(self, desk, store, own):
        check_store(self, store, own)
        standing = sorted(own.standing)
        self.assertEqual(desk.say("standing"), ",".join(map(str, standing)) or "-")
        self.assertEqual(desk.say("writes"), str(len(own.written) - 1))
        for x in own.houses():
            kept = " ".join(map(str, own.kept(x))) if x in standing else "no Fallen"
            self.assertEqual(desk.say(f"kept {x}"), kept)
        if standing:
            read = " ".join(map(str, own.written[-1][0])) if len(standing) >= own.k else "no Few"
            self.assertEqual(desk.say("read " + ",".join(map(str, standing))), read)
        if own.saw:
            spies = sorted(own.saw)
            seen = ",".join(f"{x}@{write}" for x, write in own.seen(spies)) or "-"
            self.assertEqual(desk.say("seen " + ",".join(spies)), seen)


if __name__ == "__main__":
    unittest.main()
