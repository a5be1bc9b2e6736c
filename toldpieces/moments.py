"""A store as it is at one moment: what the houses keep, what was written, who spies ([17], [18])."""

from toldpieces.errors import Fallen, NoGroup, NoHouse, NoNumber
from toldpieces.groups import is_rest_group
from toldpieces.houses import keeps_of, tells_for
from toldpieces.rests import is_number, is_rest
from toldpieces.tables import table_of


class Moment:
    """It isn't changed once it is made: each deed makes another one."""

    def __init__(self, shape, keeping, written, posts, sights):
        self.shape = shape
        # By house the row that it keeps, None where it lies fallen.
        self.keeping = keeping
        # Of each write its secrets, and its dice or None where the old ones stayed.
        self.written = written
        # By the name of each spy that was posted ever the house at which it is, None where it left.
        self.posts = posts
        # By the same names the pairs (house, write) that they saw.
        self.sights = sights


def first_moment(shape, xs, secrets, dice):
    """All houses stand, and nobody spies."""
    table = table_of(shape, secrets, dice)
    return Moment(shape, {x: keeps_of(shape, table, x) for x in xs}, ((secrets, dice),), {}, {})


def last_write(moment):
    """The number of the last write."""
    return len(moment.written) - 1


def thrower(moment, write):
    """The number of the last write, up to this one, that threw dice."""
    return max([number for number in range(write + 1) if moment.written[number][1] is not None])


def written_table(moment):
    """The table of the last write: its secrets, and the dice that were thrown last."""
    write = last_write(moment)
    return table_of(moment.shape, moment.written[write][0], moment.written[thrower(moment, write)][1])


def standing_houses(moment):
    """The houses that stand, rising."""
    return tuple([x for x in sorted(moment.keeping) if moment.keeping[x] is not None])


def has_house(moment, x):
    """Whether it is a house, standing or fallen, whatever it is."""
    return is_number(x) and x in moment.keeping


def want_house(moment, x):
    """Refuses what is no house."""
    if not has_house(moment, x):
        raise NoHouse(x)


def want_rest(moment, x):
    """Refuses what is no rest."""
    if not is_rest(moment.shape[0], x):
        raise NoNumber(x)


def want_standing(moment, xs):
    """Refuses what is no rising tuple of houses that stand."""
    if not is_rest_group(moment.shape[0], xs):
        raise NoGroup()
    for x in xs:
        want_house(moment, x)
    for x in xs:
        kept_row(moment, x)


def kept_row(moment, x):
    """The row that a house keeps; refuses one that lies fallen."""
    row = moment.keeping[x]
    if row is None:
        raise Fallen(x)
    return row


def tellings_of(moment, x, helpers):
    """What each helper tells for x, nobody lying."""
    return tuple([tells_for(moment.shape, moment.keeping[helper], x) for helper in helpers])
