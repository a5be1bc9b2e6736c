"""Numbers, names and lies as words, and groups of them with commas between ([24], [25])."""

from toldpieces.groups import is_name

FIGURES = "0123456789"
LONGEST_NUMBER = 6


def number_in(word, longest):
    """The number that the word is, of so many figures at most; None where it is none."""
    if not 1 <= len(word) <= longest or not all([figure in FIGURES for figure in word]):
        return None
    if word[0] == "0" and len(word) > 1:
        return None
    return int(word)


def number_of(word):
    """The NUMBER that the word is, or None."""
    return number_in(word, LONGEST_NUMBER)


def name_of(word):
    """The NAME that the word is, or None."""
    return word if is_name(word) else None


def lie_of(word):
    """The pair NUMBER:NUMBER that the word is, or None."""
    return all_or_none([number_of(part) for part in word.split(":")]) if word.count(":") == 1 else None


def numbers_of(word):
    """The HOUSES that the word is, or None."""
    return all_or_none([number_of(part) for part in word.split(",")])


def names_of(word):
    """The NAMES that the word is, or None."""
    return all_or_none([name_of(part) for part in word.split(",")])


def lies_of(word):
    """The LIES that the word is, or None."""
    return all_or_none([lie_of(part) for part in word.split(",")])


def all_or_none(things):
    """The things as a tuple; None where one of them is None."""
    return None if None in things else tuple(things)


READERS = {"number": number_of, "houses": numbers_of, "lies": lies_of, "name": name_of, "names": names_of}


def thing_in(kind, word):
    """What the word of that kind is, or None."""
    reader = READERS[kind]
    return reader(word)
