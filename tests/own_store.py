"""A keeping of the tests' own, against which stores are held: all is reckoned anew from the deeds each time."""

from tests.sample_rows import thrown_row
from tests.sample_things import own_keeps, own_places, own_size_alone, own_table, own_tells

LETTERS = "abcdefghijklmnopqrstuvwxyz"


class OwnStore:
    """What a store is behind these deeds, none of which is one that would be refused."""

    def __init__(self, made_of, deeds=()):
        self.shape, xs, secrets, dice = made_of
        self.made_of = made_of
        self.p, self.k, self.d, self.l = self.shape
        self.standing = set(xs)
        self.fallen = set()
        self.written = [(secrets, dice)]
        self.posted = {}
        self.saw = {}
        self.deeds = []
        self.told = []
        for deed in deeds:
            self.do(deed)

    def do(self, deed):
        word, *things = deed
        self.deeds.append(deed)
        self.told.append(getattr(self, word)(*things))

    def fall(self, x):
        self.standing.remove(x)
        self.fallen.add(x)

    def rebuild(self, x, helpers, lies):
        self.fallen.remove(x)
        return self.more(x, helpers, lies)

    def more(self, x, helpers, lies):
        self.standing.add(x)
        for spy, house in self.posted.items():
            if house == x:
                self.see(spy, x)
        return tuple(helper for helper, rest in lies)

    def write(self, secrets, dice):
        self.written.append((secrets, dice))
        for spy, house in self.posted.items():
            if house in self.standing:
                self.see(spy, house)

    def post(self, spy, x):
        self.posted[spy] = x
        self.saw.setdefault(spy, [])
        if x in self.standing:
            self.see(spy, x)

    def leave(self, spy):
        del self.posted[spy]

    def see(self, spy, x):
        pair = (x, len(self.written) - 1)
        if pair not in self.saw[spy]:
            self.saw[spy].append(pair)

    def houses(self):
        return tuple(sorted(self.standing | self.fallen))

    def thing_behind(self, write):
        """The secrets of the write, and the dice that were thrown last by then."""
        return self.written[write][0], [dice for _, dice in self.written[:write + 1] if dice is not None][-1]

    def row_behind(self, x, write):
        return own_keeps(self.shape, own_table(self.shape, *self.thing_behind(write)), x)

    def kept(self, x):
        return self.row_behind(x, len(self.written) - 1)

    def hidden(self):
        return tuple(rest for secrets, dice in self.written for rest in secrets + (dice or ()))

    def marks(self):
        secret_places, dice_places = own_places(self.shape)
        marks = []
        for write, (secrets, dice) in enumerate(self.written):
            marks += [("secret", write, place) for place in secret_places]
            marks += [("die", write, place) for place in dice_places if dice is not None]
        return tuple(marks)

    def seen(self, spies):
        return tuple(pair for spy in spies for pair in self.saw[spy])

    def with_hidden(self, numbers):
        """The same deeds with these hidden numbers in place of the own ones."""
        numbers = list(numbers)
        other = OwnStore(self.made_of)
        other.written = [tuple(None if row is None else tuple(numbers.pop(0) for _ in row) for row in pair)
                         for pair in self.written]
        return other

    def rows(self, spies):
        """By what the houses would keep were one hidden number 1 and all others 0."""
        many = len(self.hidden())
        ones = [self.with_hidden([int(at == place) for place in range(many)]) for at in range(many)]
        rows = []
        for x, write in dict.fromkeys(self.seen(spies)):
            kept = [one.row_behind(x, write) for one in ones]
            rows += [tuple(row[column] for row in kept) for column in range(self.d)]
        return tuple(rows)

    def learned(self, spies, write):
        marks = self.marks()
        places = [at for at, mark in enumerate(marks) if mark[:2] == ("secret", write)]
        return own_size_alone(self.p, len(marks), self.rows(spies), places)

    def text(self):
        return (f"{len(self.houses())} houses by {self.p}, {len(self.standing)} stand, "
                f"{len(self.written) - 1} writes")


def thrown_lies(dice, xs, most, lie):
    """Lies of at most so many of the xs, rising."""
    return tuple((x, lie()) for x in sorted(dice.sample(xs, dice.randrange(most + 1))))


def thrown_helpers(dice, own, x):
    """(helpers, lies), or None where too few stand."""
    others = sorted(own.standing - {x})
    if len(others) < own.d:
        return None
    helpers = tuple(sorted(dice.sample(others, dice.randrange(own.d, len(others) + 1))))
    return helpers, thrown_lies(dice, helpers, (len(helpers) - own.d) // 2, lambda: dice.randrange(1, own.p))


def thrown_deed(dice, own):
    """Some deed that isn't refused."""
    while True:
        word = dice.choice(("fall", "rebuild", "rebuild", "more", "write", "post", "post", "leave"))
        if word == "fall" and own.standing:
            return word, dice.choice(sorted(own.standing))
        if word == "rebuild" and own.fallen:
            x = dice.choice(sorted(own.fallen))
            asked = thrown_helpers(dice, own, x)
            if asked is not None:
                return word, x, *asked
        if word == "more" and len(own.houses()) < 8:
            x = dice.choice([x for x in range(own.p) if x not in own.houses()])
            asked = thrown_helpers(dice, own, x)
            if asked is not None and dice.randrange(3) == 0:
                return word, x, *asked
        if word == "write" and len(own.written) <= 4 and dice.randrange(3) == 0:
            secrets, rolled = (thrown_row(dice, own.p, len(places)) for places in own_places(own.shape))
            return word, secrets, dice.choice((None, rolled))
        if word == "post":
            names = sorted(own.saw) if len(own.saw) == 4 else ["ann", "bob", "cy", "dora", "eve"]
            return word, dice.choice(names), dice.choice(own.houses())
        if word == "leave" and own.posted:
            return word, dice.choice(sorted(own.posted))


def do_to(store, deed):
    """The deed done to the store, handed in as the interface tells."""
    word, *things = deed
    if word in ("rebuild", "more"):
        return getattr(store, word)(*things[:2], lies=things[2])
    if word == "write":
        return store.write(things[0], dice=things[1])
    return getattr(store, word)(*things)


def plain_store_made_of(shape, many, dice):
    """What a store of so many houses is made of."""
    secrets, rolled = (thrown_row(dice, shape[0], len(places)) for places in own_places(shape))
    return shape, tuple(sorted(dice.sample(range(shape[0]), many))), secrets, rolled


def check_store(test, store, own, at=None):
    """Holds what the store tells, now or at a moment, against the own keeping at that moment."""
    when = {} if at is None else {"at": at}
    test.assertEqual(store.houses(**when), own.houses())
    test.assertEqual(store.standing(**when), tuple(sorted(own.standing)))
    test.assertEqual(store.writes(**when), len(own.written) - 1)
    test.assertEqual(store.hidden(**when), own.hidden())
    test.assertEqual(store.marks(**when), own.marks())
    for x in own.standing:
        test.assertEqual(store.kept(x, **when), own.kept(x))
    helpers = tuple(sorted(own.standing))
    for x in (0, own.p - 1, *own.houses()):
        test.assertEqual(store.tellings(x, helpers, **when),
                         tuple(own_tells(own.shape, own.kept(helper), x) for helper in helpers))
    if len(helpers) >= own.k:
        test.assertEqual(store.read(helpers, **when), (own.written[-1][0], ()))
    for spies in {(), tuple(sorted(own.saw)), *((spy,) for spy in own.saw)}:
        test.assertEqual(store.seen(spies, **when), own.seen(spies))


def check_spies(test, store, own, spies, at=None):
    """Holds what the store tells of what these spies know against the own keeping."""
    test.assertEqual(store.seen(spies, at=at), own.seen(spies))
    test.assertEqual(store.rows(spies, at=at), own.rows(spies))
    for write in range(len(own.written)):
        test.assertEqual(store.learned(spies, write, at=at), own.learned(spies, write))
