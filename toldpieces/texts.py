"""Rows and tables as texts, and back ([24])."""

from toldpieces.errors import NoText
from toldpieces.rests import is_row
from toldpieces.tables import is_table
from toldpieces.words import number_in


def row_text(row):
    """The row's rests with a blank between two."""
    return " ".join([str(rest) for rest in row])


def read_row(p, many, text):
    """The row of many rests whose text it is; refuses all else, whatever it is."""
    if not isinstance(text, str):
        raise NoText()
    # No rest has more figures than p: so nothing longer is ever made a number.
    row = tuple([number_in(word, len(str(p))) for word in text.split(" ")])
    if not is_row(p, many, row):
        raise NoText()
    return row


def table_text(table):
    """A line for each row of the table, line ends between."""
    return "\n".join([row_text(row) for row in table])


def read_table(shape, text):
    """The table of the shape whose text it is; refuses all else, whatever it is."""
    if not isinstance(text, str):
        raise NoText()
    table = tuple([read_row(shape[0], shape[2], line) for line in text.split("\n")])
    if not is_table(shape, table):
        raise NoText()
    return table
