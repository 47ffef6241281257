"""Points 2 and 19: all errors of the package."""

import unittest

from meetbooks import errors
from meetbooks.halls import Hall
from tests.plain import CHAIN, nested

NAMES = ("BadHall BadKind BadWeaving BadHand NotSame BadHands BadNumber BadPasts TooMany NotStill BadScale BadMeeting "
         "BadValue Clashes BadNumbers NotFinite BadBooks NoRight BadBook BadRule BadKinds OtherHall NotFair NotLasting "
         "CannotBe BadSpeaker NotWaits NotRound BadWishes BadMeetings BadLogs BadNames Full OtherHands BadRows Refused "
         "TooFar BadName Held NoMark Parts BadJournal").split()

VALUES = (None, True, 0, -1, 10 ** 299, "", "some text", (), ("parts", 0, 1), (1, (2, [3])), [], [1, 2], {}, {"a": [1]},
          Hall(CHAIN), nested(60, lambda value: [value]), nested(60, lambda value: (value,)), ValueError("x"))


class ErrorsTest(unittest.TestCase):
    def test_all_derive_directly_from_meet_error(self):
        self.assertEqual(errors.MeetError.__bases__, (ValueError,))
        for name in NAMES:
            self.assertEqual(getattr(errors, name).__bases__, (errors.MeetError,), name)
            self.assertEqual(getattr(errors, name).__name__, name)

    def test_none_is_another_one(self):
        classes = [getattr(errors, name) for name in NAMES]
        self.assertEqual(len({id(one) for one in classes}), len(NAMES))
        for one in classes:
            self.assertEqual([other for other in classes if issubclass(one, other)], [one])

    def test_each_keeps_any_value(self):
        for name in NAMES + ["MeetError"]:
            for value in VALUES:
                self.assertIs(getattr(errors, name)(value).value, value)

    def test_each_is_caught_as_what_it_is(self):
        for name in NAMES + ["MeetError"]:
            for kind in (getattr(errors, name), errors.MeetError, ValueError):
                with self.assertRaises(kind) as caught:
                    raise getattr(errors, name)(("told", [1]))
                self.assertEqual(caught.exception.value, ("told", [1]))

    def test_each_has_its_own_value(self):
        for name in NAMES:
            one, other = getattr(errors, name)(1), getattr(errors, name)([2])
            self.assertEqual([one.value, other.value], [1, [2]])


if __name__ == "__main__":
    unittest.main()
