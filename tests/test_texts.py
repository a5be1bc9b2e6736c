"""Promise [24], and [3] as far as it speaks of toldpieces.texts."""

import itertools
import unittest

from tests.odd_things import plain_things, with_part
from tests.sample_rows import SOME_PRIMES, all_rows, dice_of, thrown_row
from tests.sample_things import own_is_table, shapes_by, thrown_table
from toldpieces.errors import NoText
from toldpieces.rests import PRIMES
from toldpieces.texts import read_row, read_table, row_text, table_text

NEAR_BLANKS = ("\t", "\n", "\r", "\x0b", "\x0c", "\x1c", "\x85", "\xa0", "\u2003", ",", "")


def bent_texts(text):
    """Texts near this one, of a row or a table, none of which is the text of one as long."""
    yield from (" " + text, text + " ", "\n" + text, text + "\n", "+" + text, "-" + text, "0" + text, text + "\r",
                text + "\x00", "\ufeff" + text, text + ",", text + ".0", "0x" + text, text + "_0",
                text.replace(" ", "  "))
    for at, sign in enumerate(text):
        yield text[:at] + "x" + text[at + 1:]
        yield text[:at] + "\u0661" + text[at + 1:]
        if sign == " ":
            yield from (text[:at] + other + text[at + 1:] for other in NEAR_BLANKS)
            yield text[:at] + "  " + text[at + 1:]
            yield text[:at] + " 0" + text[at + 1:]
            yield text[:at] + " +" + text[at + 1:]
            yield text[:at] + " -" + text[at + 1:]


class RowTextTest(unittest.TestCase):
    def test_examples(self):
        self.assertEqual(row_text((3, 0, 10)), "3 0 10")
        self.assertEqual(row_text((0,)), "0")
        self.assertEqual(read_row(11, 3, "3 0 10"), (3, 0, 10))
        self.assertEqual(read_row(211, 1, "210"), (210,))

    def test_they_lead_back_to_one_another(self):
        for p in PRIMES:
            for many in (1, 2, 3, 5, 8, 24, 75, 120):
                row = thrown_row(dice_of("row", p, many), p, many)
                text = row_text(row)
                self.assertEqual(text, " ".join(map(str, row)))
                self.assertEqual((read_row(p, many, text), type(text)), (row, str))
        for p in SOME_PRIMES:
            for rest in range(p):
                self.assertEqual(read_row(p, 1, row_text((rest,))), (rest,))
        for row in all_rows(11, 2):
            self.assertEqual(read_row(11, 2, row_text(row)), row)

    def test_all_short_texts(self):
        # Of all texts of up to four of these signs just those of rows are let.
        rows = {row_text(row): row for many in (1, 2) for row in all_rows(11, many)}
        for length in range(5):
            for signs in itertools.product("0129 -\n", repeat=length):
                text = "".join(signs)
                for many in (1, 2):
                    right = text in rows and len(rows[text]) == many
                    if right:
                        self.assertEqual(read_row(11, many, text), rows[text])
                    else:
                        self.assertRaises(NoText, read_row, 11, many, text)

    def test_texts_near_one(self):
        for row in ((3, 0, 10), (0, 0, 0), (10, 10, 10), (7, 1, 2)):
            for text in bent_texts(row_text(row)):
                if text != row_text(row):
                    self.assertRaises(NoText, read_row, 11, 3, text)

    def test_rests_of_p_and_more(self):
        for p in SOME_PRIMES:
            for number in (p, p + 1, 999, 1000, 10 ** 9, 10 ** 29, int("9" * 200)):
                self.assertRaises(NoText, read_row, p, 1, str(number))
                self.assertRaises(NoText, read_row, p, 2, f"0 {number}")
            self.assertRaises(NoText, read_row, p, 1, "9" * 1500)
            self.assertRaises(NoText, read_row, p, 1, "0" * 1500)
            self.assertRaises(NoText, read_row, p, 1, "9" * 5000)
            for text in ("00", "01", "-0", "-1", "+1", "1.0", "1e1", "", " ", "-", "1 ", " 1"):
                self.assertRaises(NoText, read_row, p, 1, text)

    def test_too_many_or_too_few(self):
        for many in range(1, 121):
            text = row_text((7,) * many)
            self.assertEqual(read_row(11, many, text), (7,) * many)
            for other in (many - 1, many + 1, 2 * many):
                self.assertRaises(NoText, read_row, 11, other, text)

    def test_whatever_it_is(self):
        for thing in plain_things() + [(3, 0, 10), ["3 0 10"], ("3", "0", "10"), b"3 0 10", "a" * 1500, " " * 1500]:
            self.assertRaises(NoText, read_row, 11, 3, thing)
        self.assertRaises(NoText, read_row, 11, 1, 3)
        self.assertRaises(NoText, read_row, 11, 1, True)


class TableTextTest(unittest.TestCase):
    def test_examples(self):
        table = ((3, 4, 5), (4, 1, 2), (5, 2, 0))
        self.assertEqual(table_text(table), "3 4 5\n4 1 2\n5 2 0")
        self.assertEqual(read_table((11, 2, 3, 1), "3 4 5\n4 1 2\n5 2 0"), table)
        self.assertEqual(read_table((11, 1, 1, 0), "10"), ((10,),))

    def test_they_lead_back_to_one_another(self):
        for shape in shapes_by(*SOME_PRIMES):
            table = thrown_table(dice_of("table", shape), shape)
            text = table_text(table)
            self.assertEqual(text, "\n".join(" ".join(map(str, row)) for row in table))
            self.assertEqual(read_table(shape, text), table)
            self.assertEqual(text.split("\n"), [row_text(row) for row in table])

    def test_texts_of_no_table_of_the_shape(self):
        for shape in shapes_by(11):
            p, k, d, l = shape
            table = thrown_table(dice_of("bent", shape), shape)
            things = [table + (table[0],), table[1:], tuple(row + (0,) for row in table)]
            things += [tuple(row[1:] for row in table)] if d > 1 else []
            for row, column in itertools.product(range(d), repeat=2):
                for rest in ((table[row][column] + 1) % p, p, p + 3):
                    things.append(with_part(table, row, with_part(table[row], column, rest)))
            things += [tuple(mixed) for mixed in itertools.permutations(table)]
            for thing in things:
                if own_is_table(shape, thing):
                    self.assertEqual(read_table(shape, table_text(thing)), thing)
                else:
                    self.assertRaises(NoText, read_table, shape, table_text(thing))

    def test_a_table_of_another_shape(self):
        tables = {shape: thrown_table(dice_of("other", shape), shape) for shape in shapes_by(11, 13)}
        for shape, other in itertools.product(tables, repeat=2):
            if own_is_table(other, tables[shape]):
                self.assertEqual(read_table(other, table_text(tables[shape])), tables[shape])
            else:
                self.assertRaises(NoText, read_table, other, table_text(tables[shape]))

    def test_texts_near_one(self):
        for shape in ((11, 2, 3, 1), (11, 3, 3, 0), (11, 1, 2, 0), (11, 1, 1, 0)):
            text = table_text(thrown_table(dice_of("near", shape), shape))
            near = [*bent_texts(text), text + "\n\n", text.replace("\n", "\n\n"), text.replace("\n", "\r\n"),
                    text.replace("\n", "\r"), text.replace("\n", " \n"), text.replace("\n", "\n "),
                    text.replace("\n", " "), text.replace("\n", "\x0b"), text.replace("\n", "\u2028")]
            for other in near:
                if other != text:
                    self.assertRaises(NoText, read_table, shape, other)

    def test_whatever_it_is(self):
        for shape in shapes_by(11):
            table = thrown_table(dice_of("odd", shape), shape)
            for thing in plain_things() + [table, list(table), [table_text(table)], "0 " * 700, "\n" * 1500,
                                           "x" * 1500]:
                self.assertRaises(NoText, read_table, shape, thing)


if __name__ == "__main__":
    unittest.main()
