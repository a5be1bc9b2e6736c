"""Those that are asked and may lie: what they tell, and what is found behind that ([19], [21])."""

from toldpieces.errors import Few, NoLies
from toldpieces.groups import is_rising
from toldpieces.liars import rebuilt_right
from toldpieces.moments import tellings_of, want_standing
from toldpieces.readings import read_right
from toldpieces.rests import is_rest, is_row, with_multiple


def row_told(moment, x, helpers, lies):
    """(row, liars): what house x keeps by what the helpers tell for it, and who of them lied."""
    p, k, d, dice_rows = moment.shape
    want_asked(moment, helpers, d)
    want_lies(lies, helpers, d, lambda more: is_rest(p, more) and more != 0)
    lied = dict(lies)
    told = [(helper, (rest + lied.get(helper, 0)) % p)
            for helper, rest in zip(helpers, tellings_of(moment, x, helpers))]
    return rebuilt_right(moment.shape, told)


def table_told(moment, xs, lies):
    """(table, liars): what was written last by what the houses xs tell of their rows, and who of them lied."""
    p, k, d, dice_rows = moment.shape
    want_asked(moment, xs, k)
    want_lies(lies, xs, k, lambda more: is_row(p, d, more) and any(more))
    lied = dict(lies)
    noughts = (0,) * d
    told = [(x, tuple(with_multiple(p, moment.keeping[x], lied.get(x, noughts), 1))) for x in xs]
    return read_right(moment.shape, told)


def want_asked(moment, xs, least):
    """Refuses what is no rising tuple of so many houses at least that stand."""
    want_standing(moment, xs)
    if len(xs) < least:
        raise Few(least)


def want_lies(lies, xs, least, fits):
    """Refuses lies that are none of those asked, or more than half of those asked beyond need."""
    if not isinstance(lies, tuple) or len(lies) > (len(xs) - least) // 2:
        raise NoLies()
    if not all([is_lie(lie, xs, fits) for lie in lies]) or not is_rising([lie[0] for lie in lies]):
        raise NoLies()


def is_lie(thing, xs, fits):
    """Whether it is a pair of one of the xs and of what fits as a lie, whatever it is."""
    if not isinstance(thing, tuple) or len(thing) != 2:
        return False
    x, more = thing
    # True would pass for 1 among the xs.
    return not isinstance(x, bool) and x in xs and fits(more)
