"""All groups of so many of some things."""


def groups_of(things, many):
    """All tuples of so many of the things, in the things' order: where these rise, the tuples rise, too."""
    if many < 1:
        return [()]
    groups = []
    for at in range(len(things) - many + 1):
        groups.extend([(things[at],) + others for others in groups_of(things[at + 1:], many - 1)])
    return groups
