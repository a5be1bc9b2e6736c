"""The deeds of a store: what each refuses, what is behind it, and what it tells ([18], [19], [20])."""

from toldpieces.errors import Full, NoDice, NoName, NoSecrets, NoSpy, Standing, Taken
from toldpieces.groups import is_name
from toldpieces.houses import keeps_of
from toldpieces.lies import row_told
from toldpieces.moments import (
    Moment, has_house, kept_row, last_write, standing_houses, want_house, want_rest, written_table,
)
from toldpieces.rests import is_row
from toldpieces.shapes import dice_many, secrets_many

HOUSES = 8
WRITES = 4
SPIES = 4
DEEDS = 60

# How many things stand behind the word of each deed.
PARTS = {"fall": 1, "rebuild": 3, "more": 3, "write": 2, "post": 2, "leave": 1}


def is_deed(thing):
    """Whether it is a tuple of a deed's word and as many things as that deed has, whatever it is."""
    if not isinstance(thing, tuple) or not thing or not isinstance(thing[0], str):
        return False
    return thing[0] in PARTS and len(thing) - 1 == PARTS[thing[0]]


def are_deeds(thing):
    """Whether it is a list or tuple of as many things as deeds may stand at most, whatever it is."""
    return isinstance(thing, (list, tuple)) and len(thing) <= DEEDS


def fallen(moment, x):
    """Behind fall."""
    want_house(moment, x)
    kept_row(moment, x)
    return with_row(moment, x, None), None


def rebuilt_again(moment, x, helpers, lies):
    """Behind rebuild."""
    want_house(moment, x)
    if moment.keeping[x] is not None:
        raise Standing(x)
    row, liars = row_told(moment, x, helpers, lies)
    return with_row(moment, x, row), liars


def one_more(moment, x, helpers, lies):
    """Behind more."""
    want_rest(moment, x)
    if has_house(moment, x):
        raise Taken(x)
    if len(moment.keeping) >= HOUSES:
        raise Full()
    row, liars = row_told(moment, x, helpers, lies)
    return with_row(moment, x, row), liars


def with_row(moment, x, row):
    """The moment with house x keeping the row."""
    return Moment(moment.shape, {**moment.keeping, x: row}, moment.written, moment.posts, moment.sights)


def written_anew(moment, secrets, dice):
    """Behind write."""
    shape = moment.shape
    if not is_row(shape[0], secrets_many(shape), secrets):
        raise NoSecrets()
    if dice is not None and not is_row(shape[0], dice_many(shape), dice):
        raise NoDice()
    if last_write(moment) >= WRITES:
        raise Full()
    behind = Moment(shape, moment.keeping, moment.written + ((secrets, dice),), moment.posts, moment.sights)
    table = written_table(behind)
    rows = {x: keeps_of(shape, table, x) for x in standing_houses(moment)}
    return Moment(shape, {**moment.keeping, **rows}, behind.written, behind.posts, behind.sights), None


def posted(moment, spy, x):
    """Behind post."""
    if not is_name(spy):
        raise NoName(spy)
    want_house(moment, x)
    if spy not in moment.posts and len(moment.posts) >= SPIES:
        raise Full()
    return with_post(moment, spy, x), None


def left(moment, spy):
    """Behind leave."""
    if not is_name(spy) or moment.posts.get(spy) is None:
        raise NoSpy(spy)
    return with_post(moment, spy, None), None


def with_post(moment, spy, x):
    """The moment with the spy posted at house x, or nowhere where it is None."""
    return Moment(moment.shape, moment.keeping, moment.written, {**moment.posts, spy: x}, moment.sights)


def with_sights(moment):
    """The moment with all seen that is to be seen at it: where a spy is posted, what the house keeps if it stands."""
    sights = {spy: sights_behind(moment, spy) for spy in moment.posts}
    return Moment(moment.shape, moment.keeping, moment.written, moment.posts, sights)


def sights_behind(moment, spy):
    """What the spy has seen, with what it sees at the moment."""
    before = moment.sights.get(spy, ())
    x = moment.posts[spy]
    sight = (x, last_write(moment))
    if x is None or moment.keeping[x] is None or sight in before:
        return before
    return before + (sight,)


ACTIONS = {
    "fall": fallen, "rebuild": rebuilt_again, "more": one_more, "write": written_anew, "post": posted, "leave": left,
}


def behind_deed(moment, deed):
    """The moment behind the deed, and what the deed tells; a deed that is refused makes none."""
    word, *things = deed
    action = ACTIONS[word]
    behind, told = action(moment, *things)
    return with_sights(behind), told


def as_it_is(thing):
    """The thing as it is now, whatever is done later to the lists and dicts in it."""
    if isinstance(thing, list):
        return [as_it_is(part) for part in thing]
    if isinstance(thing, tuple):
        return tuple([as_it_is(part) for part in thing])
    if isinstance(thing, dict):
        return {key: as_it_is(thing[key]) for key in thing}
    return thing
