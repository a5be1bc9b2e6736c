"""Rooms: all the rows that some rows make, told by their plain form ([6])."""

from toldpieces.rests import contrary, is_row, with_multiple


def room_of(p, n, rows):
    """The plain form of what the rows, of n rests each, make."""
    form = form_of(p, n, rows)
    return tuple([tuple(form[place]) for place in sorted(form)])


def within(p, room, row):
    """Whether the room, handed in by its plain form, has the row."""
    many = len(room[0]) if room else len(row)
    if not is_row(p, many, row):
        return False
    form = {first_place(each): each for each in room}
    return not any(leftover(p, form, row))


def form_of(p, n, rows):
    """The plain form of what the rows make: a dict of its rows by the place of their first rest that isn't 0."""
    form = {}
    for row in rows:
        if len(form) == n:
            # All rows of n rests are made by now, so the others add nothing.
            break
        left = leftover(p, form, row)
        place = first_place(left)
        if place is not None:
            form = grown(p, form, place, left)
    return form


def leftover(p, form, row):
    """What is left of the row, as a list, once the form's rows are taken off so often that it has 0 at their places."""
    left = [rest % p for rest in row]
    for place in form:
        left = cleared(p, left, place, form[place])
    return left


def cleared(p, row, place, other):
    """The row with 0 at the place: the other, which has 1 there, is taken off as often as need be."""
    return with_multiple(p, row, other, -row[place]) if row[place] else row


def first_place(row):
    """The place of the row's first rest that isn't 0, None where all are."""
    for place, rest in enumerate(row):
        if rest:
            return place
    return None


def grown(p, form, place, left):
    """The form with the row left more, whose first rest that isn't 0 stands at the place."""
    fresh = with_multiple(p, [0] * len(left), left, contrary(p, left[place]))
    wider = {at: cleared(p, form[at], place, fresh) for at in form}
    wider[place] = fresh
    return wider
