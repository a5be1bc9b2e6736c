"""The refusals that the interface lists, toldpieces.errors."""

import unittest

from tests.odd_things import plain_things
from toldpieces import errors

PIECE_ERRORS = {
    "NoSecrets": None, "NoDice": None, "NoGroup": None, "NoLies": None, "NoRow": None, "NoNumber": "x", "Fallen": "x",
    "Standing": "x", "Taken": "x", "Few": "least", "Full": None, "NoName": "name", "NothingBack": None, "Long": None,
    "Busy": None, "NoDeed": "number", "NoText": None,
}
LOOKUP_ERRORS = {"NoHouse": "x", "NoSpy": "name", "NoWrite": "number", "NoMoment": "at"}
FIELDS = PIECE_ERRORS | LOOKUP_ERRORS
CLASSES = {name: getattr(errors, name) for name in FIELDS}


def made(name, thing):
    return CLASSES[name]() if FIELDS[name] is None else CLASSES[name](thing)


class ErrorsTest(unittest.TestCase):
    def test_just_these_are_there(self):
        there = {name for name, thing in vars(errors).items() if isinstance(thing, type)}
        self.assertEqual(there, set(FIELDS) | {"PieceError"})

    def test_piece_errors(self):
        self.assertTrue(issubclass(errors.PieceError, ValueError))
        self.assertFalse(issubclass(errors.PieceError, LookupError))
        for name in PIECE_ERRORS:
            self.assertTrue(issubclass(CLASSES[name], errors.PieceError), name)
            self.assertFalse(issubclass(CLASSES[name], LookupError), name)

    def test_lookup_errors(self):
        for name in LOOKUP_ERRORS:
            self.assertTrue(issubclass(CLASSES[name], LookupError), name)
            self.assertFalse(issubclass(CLASSES[name], (ValueError, KeyError, IndexError)), name)

    def test_none_stands_under_another(self):
        for name, other in [(name, other) for name in FIELDS for other in FIELDS if name != other]:
            self.assertFalse(issubclass(CLASSES[name], CLASSES[other]), (name, other))

    def test_the_names_of_the_classes(self):
        for name in FIELDS:
            self.assertEqual(CLASSES[name].__name__, name)

    def test_each_has_its_fields_as_they_were_handed_in(self):
        for name, field in FIELDS.items():
            for thing in plain_things():
                error = made(name, thing)
                self.assertEqual(list(vars(error)), ["word"] if field is None else ["word", field])
                self.assertEqual(error.word, name)
                if field is not None:
                    self.assertIs(getattr(error, field), thing, (name, repr(thing)[:60]))

    def test_fields_are_handed_in_by_their_places_and_none_is_left_out(self):
        for name, field in FIELDS.items():
            if field is not None:
                self.assertRaises(TypeError, CLASSES[name])
                self.assertRaises(TypeError, CLASSES[name], 1, 2)

    def test_raised_and_caught(self):
        for name, field in FIELDS.items():
            with self.assertRaises(CLASSES[name]) as caught:
                raise made(name, 7)
            self.assertEqual(vars(caught.exception), {"word": name} if field is None else {"word": name, field: 7})
            self.assertIsInstance(str(caught.exception), str)

    def test_those_without_fields_are_made_of_none(self):
        for name, field in FIELDS.items():
            if field is None:
                self.assertRaises(TypeError, CLASSES[name], 1)
        self.assertIsInstance(errors.PieceError(), ValueError)

    def test_two_of_a_kind_keep_their_own(self):
        one, other = errors.NoHouse(3), errors.NoHouse("three")
        self.assertEqual((one.x, other.x), (3, "three"))


if __name__ == "__main__":
    unittest.main()
