"""Things for judges that take "whatever it is" ([3])."""


def nested(depth):
    """A list in a list and so on, so deep."""
    thing = []
    for _ in range(depth - 1):
        thing = [thing]
    return thing


def plain_things():
    """One or more of each kind that [3] names, none of them a tuple of two or more numbers."""
    return [
        None, True, False,
        -1, 0, 1, 2, 10 ** 29, -(10 ** 29), int("9" * 30),
        "", "a", "11", "fall 3", "a\nb", "~" * 200,
        (), (None,), (True,), (0,), (11,), ("11",), ((),), ((), (), ()),
        [], [11], [None, "a"], [[0], [0]], list(range(3990)), tuple([0] * 3990),
        {}, {"p": 11}, {"a": [1, (2, {"b": None})], "": ""},
        nested(20), (nested(19),), {"deep": nested(19)},
    ]


def odd_parts(part):
    """What may stand, wrongly, where the part stands: other kinds, the same in another dress."""
    parts = [None, "", str(part), (part,), [part], {"part": part}, {}, nested(5)]
    if isinstance(part, int):
        parts += [True, False]
    if isinstance(part, tuple):
        parts += [list(part), dict.fromkeys([str(one) for one in part]), 0, True]
    return parts


def with_part(row, at, part):
    """The tuple with another part at the place."""
    return row[:at] + (part,) + row[at + 1:]


def spoiled(row):
    """Versions of the tuple that are of another kind or length, or have one part of another kind."""
    yield list(row)
    yield dict.fromkeys([str(part) for part in row])
    yield str(row)
    yield (row,)
    yield row + (None,)
    for at, part in enumerate(row):
        yield row[:at] + row[at + 1:]
        yield row[:at] + (part,) + row[at:]
        for odd in odd_parts(part):
            yield with_part(row, at, odd)
