"""The errors and the base of verdicts."""

import unittest

from helping import ANY, same
from lanebanks import errors
from lanebanks.distances import Meets, Never
from lanebanks.rules import Rule
from lanebanks.sets import NumberSet
from lanebanks.verdicts import Verdict

NAMES = {
    "BadSet": ["part"], "BadRule": ["part"], "BadUnit": ["part"], "BadTile": ["part"], "BadNumber": ["value"],
    "BadLog": ["at"], "BadMemory": ["part"], "BadText": ["line", "word"], "BadCommand": ["word"],
    "BadName": ["value"], "NoName": ["name"], "NoMember": ["at"], "Nothing": [], "TooMany": ["what", "most"],
}


class ErrorsTest(unittest.TestCase):
    def test_base(self):
        self.assertEqual(errors.BankError.__bases__, (ValueError,))

    def test_each_is_directly_below_the_base(self):
        for name in NAMES:
            self.assertEqual(getattr(errors, name).__bases__, (errors.BankError,), name)

    def check(self, error, name, values):
        kinds = [other for other in NAMES if isinstance(error, getattr(errors, other))]
        self.assertEqual(kinds, [name])
        self.assertIsInstance(error, errors.BankError)
        self.assertIsInstance(error, ValueError)
        self.assertEqual(list(vars(error)), NAMES[name])
        for attribute, value in zip(NAMES[name], values):
            self.assertIs(getattr(error, attribute), value)

    def test_by_position_and_by_name(self):
        for name, attributes in NAMES.items():
            kind = getattr(errors, name)
            for at, value in enumerate(ANY):
                values = [value, ANY[at - 1]][:len(attributes)]
                self.check(kind(*values), name, values)
                self.check(kind(**dict(zip(attributes, values))), name, values)
                self.check(kind(**dict(list(zip(attributes, values))[::-1])), name, values)

    def test_mixed(self):
        self.check(errors.TooMany("states", most=5), "TooMany", ["states", 5])
        self.check(errors.BadText(1, word=2), "BadText", [1, 2])

    def test_each_needs_its_arguments(self):
        for name, attributes in NAMES.items():
            if attributes:
                for many in (0, len(attributes) - 1, len(attributes) + 1):
                    with self.assertRaises(TypeError):
                        getattr(errors, name)(*[1] * many)

    def test_each_is_raised_and_caught(self):
        for name, attributes in NAMES.items():
            for base in (ValueError, errors.BankError, getattr(errors, name)):
                try:
                    raise getattr(errors, name)(*[7] * len(attributes))
                except base as caught:
                    self.assertTrue(same(list(vars(caught).values()), [7] * len(attributes)))

    def test_what_is_kept_is_the_very_value(self):
        held = [1, [2]]
        self.assertIs(errors.BadNumber(held).value, held)

    def test_verdicts(self):
        self.assertTrue(issubclass(Meets, Verdict))
        self.assertTrue(issubclass(Never, Verdict))
        self.assertFalse(issubclass(NumberSet, Verdict))
        self.assertFalse(issubclass(Rule, Verdict))


if __name__ == "__main__":
    unittest.main()
