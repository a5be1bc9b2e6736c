"""The hidden numbers of a store, and what spies know of them ([17], [18], [22])."""

from toldpieces.errors import NoGroup, NoRow, NoSpy, NoWrite
from toldpieces.groups import is_name_group
from toldpieces.moments import last_write, thrower
from toldpieces.papers import makes, parted
from toldpieces.rests import is_number, is_row
from toldpieces.rooms import room_of, within
from toldpieces.shapes import places_of
from toldpieces.sums import kept_sums, size_alone
from toldpieces.tables import dice_places, secret_places


def hidden_numbers(moment):
    """All secrets and dice, in the order in which they came."""
    numbers = []
    for secrets, dice in moment.written:
        numbers.extend(secrets)
        if dice is not None:
            numbers.extend(dice)
    return tuple(numbers)


def marks_of(moment):
    """For each hidden number (word, write, place)."""
    marks = []
    for write, (secrets, dice) in enumerate(moment.written):
        marks.extend([("secret", write, place) for place in secret_places(moment.shape)])
        if dice is not None:
            marks.extend([("die", write, place) for place in dice_places(moment.shape)])
    return tuple(marks)


def marks_behind(moment, write):
    """Of each of the shape's places the mark of the hidden number that stands there behind the write."""
    dice_rows = moment.shape[3]
    thrown = thrower(moment, write)
    return [("die", thrown, place) if place[0] < dice_rows else ("secret", write, place)
            for place in places_of(moment.shape)]


def want_spies(moment, spies):
    """Refuses what is no rising tuple of names that were posted by then."""
    if not is_name_group(spies):
        raise NoGroup()
    for spy in spies:
        if spy not in moment.posts:
            raise NoSpy(spy)


def seen_by(moment, spies):
    """What each of the spies has seen, one behind another."""
    want_spies(moment, spies)
    pairs = []
    for spy in spies:
        pairs.extend(moment.sights[spy])
    return tuple(pairs)


def rows_seen(moment, spies):
    """What the spies have seen, each pair once, written as rows of as many rests as there are hidden numbers."""
    places = {mark: at for at, mark in enumerate(marks_of(moment))}
    # A dict keeps each pair at its first place.
    pairs = {pair: True for pair in seen_by(moment, spies)}
    rows = []
    for x, write in pairs:
        marks = marks_behind(moment, write)
        for sums in kept_sums(moment.shape, x):
            row = [0] * len(places)
            for mark, rest in zip(marks, sums):
                row[places[mark]] = rest
            rows.append(tuple(row))
    return tuple(rows)


def rows_beside(moment, spies, row):
    """What the spies have seen, written as rows, beside a row that is asked about; refuses one that is none such."""
    rows = rows_seen(moment, spies)
    if not is_row(moment.shape[0], len(marks_of(moment)), row):
        raise NoRow()
    return rows


def is_known(moment, spies, row):
    """Whether the row is in the room of what the spies have seen."""
    rows = rows_beside(moment, spies, row)
    return within(moment.shape[0], room_of(moment.shape[0], len(row), rows), row)


def paper_on(moment, spies, row):
    """("makes", factors) or ("parted", pair): why the spies know the row, or why they don't."""
    p = moment.shape[0]
    rows = rows_beside(moment, spies, row)
    factors = makes(p, len(row), rows, row)
    if factors is not None:
        return "makes", factors
    return "parted", parted(p, len(row), rows, row)


def learned_of(moment, spies, write):
    """The size of the room of all sums of that write's secrets alone that the spies know."""
    rows = rows_seen(moment, spies)
    if not is_number(write) or not 0 <= write <= last_write(moment):
        raise NoWrite(write)
    marks = marks_of(moment)
    places = [at for at, (word, number, place) in enumerate(marks) if word == "secret" and number == write]
    return size_alone(moment.shape[0], len(marks), rows, places)
