"""Stores of houses, kept through whatever is done to them ([17] to [23])."""

# HOUSES, SPIES and WRITES are read by the deeds alone; whoever uses a store finds them here.
from toldpieces.deeds import DEEDS, HOUSES, SPIES, WRITES, are_deeds, as_it_is, behind_deed, is_deed
from toldpieces.errors import Busy, Long, NoDeed, NoMoment, NothingBack
from toldpieces.lies import table_told
from toldpieces.moments import (
    first_moment, kept_row, last_write, standing_houses, tellings_of, want_house, want_rest, want_standing,
)
from toldpieces.rests import is_number
from toldpieces.spies import hidden_numbers, is_known, learned_of, marks_of, paper_on, rows_seen, seen_by
from toldpieces.tables import thing_of

LOGGED = 10


class Store:
    """Houses over which a thing is laid, the deeds that stand, and the store as it was behind each of them."""

    def __init__(self, shape, xs, secrets, dice):
        self.made_of = (shape, xs, secrets, dice)
        self.stood = []
        self.moments = [first_moment(shape, xs, secrets, dice)]
        self.busy = False
        self.entries = []

    def fall(self, x):
        """The house falls."""
        return self.done(("fall", x))

    def rebuild(self, x, helpers, *, lies=()):
        """The house that lies fallen stands again; told are those who lied."""
        return self.done(("rebuild", x, helpers, lies))

    def more(self, x, helpers, *, lies=()):
        """There is a house more, that stands; told are those who lied."""
        return self.done(("more", x, helpers, lies))

    def write(self, secrets, *, dice=None):
        """The secrets are written anew, with dice thrown anew or, where there are none, with the old ones."""
        return self.done(("write", secrets, dice))

    def post(self, spy, x):
        """The spy is posted at the house, and nowhere else."""
        return self.done(("post", spy, x))

    def leave(self, spy):
        """The spy leaves where it is posted."""
        return self.done(("leave", spy))

    def back(self):
        """The last deed that stands is undone."""
        self.want_idle()
        if not self.stood:
            raise NothingBack()
        self.stood.pop()
        self.moments.pop()

    def done(self, deed):
        """What the deed tells, which stands from now on, where no rehearsal is under way."""
        self.want_idle()
        return self.added(deed)

    def want_idle(self):
        """Refuses whatever would change the store within tell."""
        if self.busy:
            raise Busy()

    def added(self, deed):
        """What the deed tells, which stands from now on."""
        if len(self.stood) >= DEEDS:
            raise Long()
        moment, told = behind_deed(self.moments[-1], deed)
        self.stood.append(deed)
        self.moments.append(moment)
        return told

    def rehearsed(self, deeds, *, tell=None):
        """What each of the deeds tells, which are done one behind another and undone at the end."""
        self.want_idle()
        if not are_deeds(deeds):
            raise NoDeed(None)
        things = as_it_is(deeds)
        answers = []
        many = 0
        stood, moments = self.stood, self.moments
        self.entries = self.entries[-LOGGED:] + [("begin", len(things))]
        self.stood, self.moments, self.busy = list(stood), list(moments), True
        try:
            for number, deed in enumerate(things):
                if not is_deed(deed):
                    raise NoDeed(number)
                told = self.added(deed)
                answers.append(told)
                many += 1
                if tell is not None:
                    tell(self, told)
        finally:
            self.stood, self.moments, self.busy = stood, moments, False
            self.entries.append(("end", many))
        return tuple(answers)

    def log(self):
        """The last rows of ("begin", how many deeds) and ("end", how many were done), two for each rehearsal."""
        return tuple(self.entries[-LOGGED:])

    def its_deeds(self):
        """The deeds that stand, as tuples of their word and all that was handed in."""
        return tuple(self.stood)

    def moment_at(self, at):
        """The store as it is now, or as it was behind its first so many deeds."""
        if at is None:
            return self.moments[-1]
        if not is_number(at) or not 0 <= at <= len(self.stood):
            raise NoMoment(at)
        return self.moments[at]

    def houses(self, *, at=None):
        """All houses, standing or fallen, rising."""
        return tuple(sorted(self.moment_at(at).keeping))

    def standing(self, *, at=None):
        """The houses that stand, rising."""
        return standing_houses(self.moment_at(at))

    def kept(self, x, *, at=None):
        """The row that the house keeps."""
        moment = self.moment_at(at)
        want_house(moment, x)
        return kept_row(moment, x)

    def tellings(self, x, helpers, *, at=None):
        """What each of the helpers tells for x, nobody lying."""
        moment = self.moment_at(at)
        want_rest(moment, x)
        want_standing(moment, helpers)
        return tellings_of(moment, x, helpers)

    def read(self, houses, *, lies=(), at=None):
        """(secrets, liars): the secrets of the last write by what the houses tell, and who of them lied."""
        moment = self.moment_at(at)
        table, liars = table_told(moment, houses, lies)
        return thing_of(moment.shape, table)[0], liars

    def writes(self, *, at=None):
        """The number of the last write."""
        return last_write(self.moment_at(at))

    def hidden(self, *, at=None):
        """All secrets and dice, in the order in which they came."""
        return hidden_numbers(self.moment_at(at))

    def marks(self, *, at=None):
        """For each hidden number (word, write, place)."""
        return marks_of(self.moment_at(at))

    def seen(self, spies, *, at=None):
        """The pairs (house, write) that each of the spies has seen, one behind another."""
        return seen_by(self.moment_at(at), spies)

    def rows(self, spies, *, at=None):
        """What the spies have seen, each pair once, written as rows of sums of the hidden numbers."""
        return rows_seen(self.moment_at(at), spies)

    def knows(self, spies, row, *, at=None):
        """Whether the spies know this sum of the hidden numbers."""
        return is_known(self.moment_at(at), spies, row)

    def why(self, spies, row, *, at=None):
        """("makes", factors) where the spies know this sum, ("parted", pair) where they don't."""
        return paper_on(self.moment_at(at), spies, row)

    def learned(self, spies, write, *, at=None):
        """The size of the room of all sums of that write's secrets alone that the spies know."""
        return learned_of(self.moment_at(at), spies, write)

    def __len__(self):
        """How many deeds stand."""
        return len(self.stood)

    def __eq__(self, other):
        """Whether it is a store made of the same with the same deeds."""
        return isinstance(other, Store) and self.made_of == other.made_of and self.stood == other.stood

    def __str__(self):
        """How many houses there are and stand, the prime, and how many writes stand behind write 0."""
        return ", ".join([
            f"{len(self.houses())} houses by {self.made_of[0][0]}",
            f"{len(self.standing())} stand",
            f"{self.writes()} writes",
        ])
