"""[11]: the errors."""

import unittest

from hoursmeant import errors
from hoursmeant.errors import Crowded, HourError, InvalidWords, Refused, Seen

ONE_STRING = (
    "InvalidZone", "InvalidZones", "InvalidPlace", "InvalidNumber", "InvalidOffset", "InvalidRule",
    "InvalidTable", "InvalidLooks", "InvalidProgram", "InvalidWorld", "InvalidValue", "InvalidWish",
    "InvalidSightings", "Unsuited", "NothingToDrop", "NothingToUndo", "NoBlock", "InvalidCommand",
)
OTHERS = {"Refused": ["step"], "Seen": ["offset"], "Crowded": ["first", "last"], "InvalidWords": ["place"]}


def made(name):
    """An error of the class of this name."""
    kept = OTHERS.get(name)
    return getattr(errors, name)(*range(len(kept)) if kept else ["why"])


class TestErrors(unittest.TestCase):
    def test_there_are_22_and_their_base(self):
        found = {name for name, item in vars(errors).items() if isinstance(item, type)}
        self.assertEqual(found, {*ONE_STRING, *OTHERS, "HourError"})
        self.assertEqual(len(found), 23)

    def test_base(self):
        self.assertEqual(HourError.__bases__, (ValueError,))
        self.assertEqual(str(HourError("why")), "why")

    def test_each_is_directly_under_the_base_and_none_of_the_others(self):
        for name in (*ONE_STRING, *OTHERS):
            with self.subTest(name):
                error = made(name)
                self.assertEqual(getattr(errors, name).__bases__, (HourError,))
                self.assertIsInstance(error, HourError)
                self.assertIsInstance(error, ValueError)
                for other in {*ONE_STRING, *OTHERS} - {name}:
                    self.assertNotIsInstance(error, getattr(errors, other))

    def test_each_is_raised_and_caught(self):
        for name in (*ONE_STRING, *OTHERS):
            for caught in (getattr(errors, name), HourError, ValueError):
                with self.subTest(name), self.assertRaises(caught):
                    raise made(name)

    def test_one_string_is_the_message(self):
        for name in ONE_STRING:
            self.assertEqual(str(getattr(errors, name)("some words")), "some words")

    def test_messages_tell_the_arguments(self):
        for error in (Refused(step=17), Seen(offset=17), Crowded(17, last=18), InvalidWords(place=17)):
            self.assertIn("17", str(error))
        self.assertIn("18", str(Crowded(17, last=18)))

    def test_attributes_by_position_and_by_name(self):
        for number in (0, 7, -60, 10 ** 30):
            for error in (Refused(number), Refused(step=number)):
                self.assertEqual(error.step, number)
            for error in (Seen(number), Seen(offset=number)):
                self.assertEqual(error.offset, number)
            for error in (InvalidWords(number), InvalidWords(place=number)):
                self.assertEqual(error.place, number)
            for error in (Crowded(number, 5), Crowded(number, last=5), Crowded(last=5, first=number)):
                self.assertEqual((error.first, error.last), (number, 5))

    def test_attributes_belong_to_each_object(self):
        one, other = Crowded(1, 2), Crowded(3, 4)
        self.assertEqual((one.first, one.last, other.first, other.last), (1, 2, 3, 4))
        self.assertEqual(set(vars(one)), {"first", "last"})

    def test_arguments_that_are_missing_or_too_many(self):
        for made_wrong in (
            lambda: Refused(), lambda: Refused(1, 2), lambda: Seen(), lambda: Crowded(1),
            lambda: Crowded(1, 2, 3), lambda: InvalidWords(), lambda: InvalidWords(words=1),
        ):
            self.assertRaises(TypeError, made_wrong)
