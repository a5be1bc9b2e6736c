"""Dice: which ones make houses keep some rows, and what is learned of the other numbers ([16])."""

from toldpieces.papers import comes_to, makes
from toldpieces.shapes import dice_many, places_of
from toldpieces.sums import kept_sums, size_alone


def dice_for(shape, xs, rows, secrets):
    """The dice with which the houses xs keep these rows, the secrets being those; None where there are none."""
    p, many = shape[0], dice_many(shape)
    kept = [rest for row in rows for rest in row]
    # The dice's places stand ahead of the secrets': what these don't come to, the dice must.
    sums = sums_of_all(shape, xs)
    missing = tuple([(rest - comes_to(p, row[many:], secrets)) % p for rest, row in zip(kept, sums)])
    by_die = tuple([tuple([row[at] for row in sums]) for at in range(many)])
    return makes(p, len(missing), by_die, missing)


def sums_of_all(shape, xs):
    """All that the houses xs keep, one behind another, as rows with a rest for each of the shape's places."""
    return [row for x in xs for row in kept_sums(shape, x)]


def learned_by(shape, dice_places, xs):
    """The size of the room of all sums of the numbers at the other places alone that are known of what xs keep."""
    places = places_of(shape)
    others = [at for at, place in enumerate(places) if place not in dice_places]
    return size_alone(shape[0], len(places), sums_of_all(shape, xs), others)
