import copy
import unittest

from calltrim import errors
from support import SMALL

NAMES = {
    "InvalidNumber": ["value"], "InvalidWord": ["value"], "InvalidLine": ["line"], "InvalidCode": ["value"],
    "Endless": ["place"], "TooLong": ["place"], "TooLarge": ["many"], "InvalidRow": ["value"],
    "InvalidMoves": ["value"], "InvalidText": ["text", "at"], "InvalidForm": ["value"],
    "InvalidEntries": ["value"], "InvalidCut": ["value"], "InvalidTables": ["value"], "InvalidWords": ["value"],
    "InvalidImage": ["at"], "InvalidPlan": ["value"], "Unset": ["place", "slot"], "InvalidPlacement": ["value"],
    "InvalidSaves": ["value"], "InvalidSlot": ["value"], "InvalidQuestion": ["value"], "InvalidClaim": ["value"],
    "Undefined": ["what"], "NothingToUndo": ["word"],
}
VALUES = [0, -3, 10 ** 11, "", "event", (1, 2), ((), ("a",)), [1, [2]], None, True, SMALL]


class ErrorsTest(unittest.TestCase):
    def test_every_class_keeps_what_it_is_made_with(self):
        for name, attributes in NAMES.items():
            kind = getattr(errors, name)
            for value in VALUES:
                other = [value]
                given = [value, other][:len(attributes)]
                for error in (kind(*given), kind(**dict(zip(attributes, given)))):
                    for attribute, argument in zip(attributes, given):
                        self.assertIs(getattr(error, attribute), argument)

    def test_all_stand_under_trim_error_alone(self):
        self.assertEqual(errors.TrimError.__bases__, (ValueError,))
        for name in NAMES:
            self.assertEqual(getattr(errors, name).__bases__, (errors.TrimError,), name)

    def test_no_class_is_lacking_or_too_many(self):
        found = {name for name, value in vars(errors).items() if isinstance(value, type)}
        self.assertEqual(found, set(NAMES) | {"TrimError"})

    def test_errors_can_be_copied_and_shown(self):
        error = copy.copy(errors.InvalidText("go", 3))
        self.assertEqual((error.text, error.at), ("go", 3))
        self.assertIn("go", str(error))

    def test_a_changed_list_stays_the_argument(self):
        given = [1]
        error = errors.InvalidCode(given)
        given.append(2)
        self.assertEqual(error.value, [1, 2])
