"""A desk, at which a store is done to and asked by lines of text ([25])."""

from toldpieces.errors import NoHouse, NoMoment, NoSpy, NoWrite, PieceError
from toldpieces.texts import row_text
from toldpieces.words import all_or_none, number_of, thing_in

# For each word the kinds of words that may stand behind it.
FORMS = {
    "fall": (("number",),),
    "rebuild": (("number", "houses"), ("number", "houses", "lies")),
    "more": (("number", "houses"), ("number", "houses", "lies")),
    "post": (("name", "number"),),
    "leave": (("name",),),
    "back": ((),),
    "kept": (("number",),),
    "standing": ((),),
    "read": (("houses",),),
    "seen": (("names",),),
    "learned": (("names", "number"),),
    "writes": ((),),
}


class Desk:
    """It does and asks all of the very store that it was made of."""

    def __init__(self, store):
        self.store = store

    def say(self, line):
        """The answer to a line, whatever it is."""
        try:
            answer = answer_to(self.store, line)
        except (PieceError, NoHouse, NoSpy, NoWrite, NoMoment) as refusal:
            return f"no {refusal.word}"
        return "no line" if answer is None else answer


def after_fall(store, x):
    """Answers `fall X`."""
    store.fall(x)
    return "done"


def after_rebuild(store, x, helpers, lies=()):
    """Answers `rebuild X HOUSES` and `rebuild X HOUSES LIES`."""
    return done_text(store.rebuild(x, helpers, lies=lies))


def after_more(store, x, helpers, lies=()):
    """Answers `more X HOUSES` and `more X HOUSES LIES`."""
    return done_text(store.more(x, helpers, lies=lies))


def done_text(liars):
    """That it is done, and who lied."""
    return f"done, lied {group_text(liars)}" if liars else "done"


def after_post(store, spy, x):
    """Answers `post NAME X`."""
    store.post(spy, x)
    return "done"


def after_leave(store, spy):
    """Answers `leave NAME`."""
    store.leave(spy)
    return "done"


def after_back(store):
    """Answers `back`."""
    store.back()
    return "done"


def after_write(store, words):
    """Answers `write ROW`, `write ROW / ROW` and `write ROW /`; None where these words are none such."""
    at = words.index("/") if "/" in words else len(words)
    secrets = all_or_none([number_of(word) for word in words[:at]])
    dice = all_or_none([number_of(word) for word in words[at + 1:]])
    if not secrets or dice is None:
        return None
    store.write(secrets, dice=dice if at < len(words) else None)
    return "done"


def told_kept(store, x):
    """Answers `kept X`."""
    return row_text(store.kept(x))


def told_standing(store):
    """Answers `standing`."""
    return group_text(store.standing())


def told_read(store, houses):
    """Answers `read HOUSES`."""
    secrets, liars = store.read(houses)
    return row_text(secrets)


def told_seen(store, spies):
    """Answers `seen NAMES`."""
    return group_text([f"{x}@{write}" for x, write in store.seen(spies)])


def told_learned(store, spies, write):
    """Answers `learned NAMES NUMBER`."""
    return str(store.learned(spies, write))


def told_writes(store):
    """Answers `writes`."""
    return str(store.writes())


def group_text(things):
    """The things with commas between, or `-` where there are none."""
    return ",".join([str(thing) for thing in things]) if things else "-"


ANSWERS = {
    "fall": after_fall, "rebuild": after_rebuild, "more": after_more, "post": after_post, "leave": after_leave,
    "back": after_back, "kept": told_kept, "standing": told_standing, "read": told_read, "seen": told_seen,
    "learned": told_learned, "writes": told_writes,
}


def answer_to(store, line):
    """The answer to a line; None where it is no line, whatever it is."""
    if not isinstance(line, str):
        return None
    word, *others = line.split(" ")
    if word == "write":
        return after_write(store, others)
    if word not in FORMS:
        return None
    for kinds in FORMS[word]:
        things = things_in(kinds, others)
        if things is not None:
            answer = ANSWERS[word]
            return answer(store, *things)
    return None


def things_in(kinds, words):
    """What the words are, each of its kind; None where one isn't, or where there are more or fewer words."""
    if len(kinds) != len(words):
        return None
    return all_or_none([thing_in(kind, word) for kind, word in zip(kinds, words)])
