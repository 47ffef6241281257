"""Point 16, back: meetings that are taken back and done again, what would be lost with a book."""

import unittest

from meetbooks.back import done_again, only_view, taken_back
from meetbooks.halls import Hall
from meetbooks.stories import same_story
from meetbooks.weavings import standing_of
from tests.plain import (
    AWAY, COMING, EIGHT, GREAT, HEIRS, MOVING_TEXTS, NO_INTEGERS, NO_MEETINGS, NO_TUPLES, PAIR, STILL_TEXTS, TEXTS, TWO,
    Numbers, Plain, check_error, check_exact, check_wrong_weavings, error_of, odd_cases)


def plain_taken_back(plain, weaving, number):
    pasts = plain.pasts(weaving)
    left = tuple(meeting for at, meeting in enumerate(weaving) if number not in pasts[at])
    return left, tuple(meeting for at, meeting in enumerate(weaving) if number in pasts[at])


def plain_done_again(plain, weaving, gone):
    """Each meeting in its turn, by the words of the point."""
    state = plain.state_behind(weaving)
    other, skipped = list(weaving), []
    for kind, load in gone:
        waits = any(not plain.strangers(kind, before) for before, _ in skipped)
        if not waits and plain.told_refusal(state, kind) is None:
            other.append((kind, load))
            state = plain.behind(state, kind)
        else:
            skipped.append((kind, load))
    return tuple(other), tuple(skipped)


def plain_only_view(plain, weaving, hand):
    here, _ = plain.state_behind(weaving)
    elsewhere = set()
    for other, name in enumerate(plain.hands):
        if name in here and other != hand:
            elsewhere |= plain.view(weaving, other)
    return tuple(sorted(plain.view(weaving, hand) - elsewhere))


class TakenBackTest(unittest.TestCase):
    def test_beside_pasts(self):
        for hall, plain, weaving, _ in odd_cases(1601, 260, 12):
            for number in range(len(weaving)):
                left, gone = told = taken_back(hall, weaving, number)
                check_exact(self, told, plain_taken_back(plain, weaving, number))
                # What is left is a weaving; with what went behind it, it is one of the same story.
                plain.state_behind(left)
                check_exact(self, same_story(hall, left + gone, weaving), ("same",))
                check_exact(self, standing_of(hall, left + gone), standing_of(hall, weaving))
                check_exact(self, done_again(hall, left, gone), (left + gone, ()))

    def test_all_weavings_of_one_story(self):
        for hall, plain, weaving, _ in odd_cases(1602, 60, 6):
            told = sorted(tuple(sorted(taken_back(hall, weaving, number)[1])) for number in range(len(weaving)))
            for other in plain.story(weaving):
                self.assertEqual(sorted(tuple(sorted(taken_back(hall, other, number)[1]))
                                        for number in range(len(other))), told)

    def test_the_first_and_the_last(self):
        hall = Hall(TWO)
        weaving = ((0, 0), (1, GREAT), (2, -GREAT), (0, 5))
        check_exact(self, taken_back(hall, weaving, 3), (weaving[:3], weaving[3:]))
        check_exact(self, taken_back(hall, weaving, 2), (weaving[:2], weaving[2:]))
        check_exact(self, taken_back(number=1, weaving=weaving, hall=hall), (weaving[:1], weaving[1:]))
        check_exact(self, taken_back(hall, weaving[:1], 0), ((), weaving[:1]))

    def test_what_hangs_on_a_hand_that_was_begun(self):
        hall = Hall(COMING)  # begin a begins c, go c a ends c, pass a b gives c, start b begins d
        weaving = ((0, 0), (3, 0), (1, 0), (6, 0), (0, 1))
        check_exact(self, taken_back(hall, weaving, 0), (((3, 0), (6, 0)), ((0, 0), (1, 0), (0, 1))))
        check_exact(self, taken_back(hall, weaving, 1), (((0, 0), (1, 0), (0, 1)), ((3, 0), (6, 0))))

    def test_four_hundred_meetings(self):
        for hall_text in (TWO, EIGHT, COMING, PAIR):
            plain = Plain(hall_text)
            weaving = plain.odd_weaving(Numbers(1603), 400)
            for number in (0, 200, 399):
                left, gone = told = taken_back(Hall(hall_text), weaving, number)
                check_exact(self, told, plain_taken_back(plain, weaving, number))
                check_exact(self, done_again(Hall(hall_text), left, gone), (left + gone, ()))
            check_exact(self, done_again(Hall(hall_text), weaving, weaving), plain_done_again(plain, weaving, weaving))

    def test_wrong_numbers(self):
        for value in NO_INTEGERS + (-1, 2, 3, GREAT, -GREAT):
            check_error(self, "BadNumber", value, taken_back, Hall(TWO), ((0, 0), (1, 0)), value)
        check_error(self, "BadNumber", 0, taken_back, Hall(TWO), (), 0)


class DoneAgainTest(unittest.TestCase):
    def test_any_meetings_behind_any_weaving(self):
        seen = {"all": 0, "some": 0, "though it could be": 0}
        for hall, plain, weaving, numbers in odd_cases(1604, 300, 8):
            for _ in range(5):
                gone = tuple((numbers.below(len(hall)), numbers.below(3)) for _ in range(numbers.below(8)))
                told = done_again(hall, weaving, gone)
                check_exact(self, told, plain_done_again(plain, weaving, gone))
                seen["all"] += len(gone) > 2 and not told[1]
                seen["some"] += len(told[1]) > 0 and len(told[0]) > len(weaving)
                state = plain.state_behind(told[0])
                seen["though it could be"] += any(plain.told_refusal(state, kind) is None for kind, _ in told[1])
        self.assertGreater(min(seen.values()), 50)

    def test_a_skipped_meeting_holds_back_all_later_ones_of_its_hands(self):
        hall = Hall(AWAY)  # x a, y b, z c, w a b, v b c; c is away
        check_exact(self, done_again(hall, (), ((4, 0), (1, 0), (0, 0), (3, 0), (0, 1), (2, 0))),
                    (((0, 0),), ((4, 0), (1, 0), (3, 0), (0, 1), (2, 0))))
        hall = Hall(PAIR)  # s a begins b, t a b, e a b ends b
        check_exact(self, done_again(hall, (), ((1, 0), (0, 0), (2, 0))), ((), ((1, 0), (0, 0), (2, 0))))
        check_exact(self, done_again(hall, (), ((0, 7), (0, 0), (2, 0))), (((0, 7),), ((0, 0), (2, 0))))
        check_exact(self, done_again(hall, ((0, 1),), ((2, 0), (0, 0), (1, 4))),
                    (((0, 1), (2, 0), (0, 0), (1, 4)), ()))

    def test_nothing_and_names(self):
        for hall_text in TEXTS:
            check_exact(self, done_again(Hall(hall_text), (), ()), ((), ()))
        check_exact(self, done_again(gone=((0, GREAT),), weaving=((1, 0),), hall=Hall(TWO)), (((1, 0), (0, GREAT)), ()))

    def test_wrong_meetings(self):
        for hall_text in (EIGHT, HEIRS):
            hall = Hall(hall_text)
            for value in NO_TUPLES:
                check_error(self, "BadMeetings", -1, done_again, hall, (), value)
            for value in NO_MEETINGS:
                check_error(self, "BadMeetings", 0, done_again, hall, (), (value,))
                check_error(self, "BadMeetings", 2, done_again, hall, (), ((0, 0), (2, 5), value, value))
        # What cannot be is no wrong meeting.
        self.assertIsNone(error_of(done_again, Hall(PAIR), (), ((2, 0), (1, 0))))
        check_error(self, "BadMeetings", 1, done_again, Hall(PAIR), (), ((2, 0), (3, 0)))


class OnlyViewTest(unittest.TestCase):
    def test_beside_views(self):
        seen = {"some": 0, "none": 0, "away": 0}
        for hall, plain, weaving, _ in odd_cases(1605, 300, 12):
            here, _ = plain.state_behind(weaving)
            for hand, name in enumerate(plain.hands):
                told = only_view(hall, weaving, hand)
                check_exact(self, told, plain_only_view(plain, weaving, hand))
                seen["some" if told else "none"] += 1
                if name not in here:
                    check_exact(self, told, ())
                    seen["away"] += bool(plain.view(weaving, hand))
        self.assertGreater(min(seen.values()), 50)

    def test_a_hand_that_is_here_alone(self):
        hall = Hall("hands a b\ntaken a\nright b a\nmeet x a\nmeet y a begins b\nmeet z a b ends a")
        weaving = ((0, 0), (1, 0), (2, 0))
        check_exact(self, only_view(hall, weaving[:1], 0), (0,))
        check_exact(self, [only_view(hall, weaving[:2], hand) for hand in (0, 1)], [(), ()])
        check_exact(self, [only_view(hall, weaving, hand) for hand in (0, 1)], [(), (0, 1, 2)])
        check_exact(self, [only_view(hall, (), hand) for hand in (0, 1)], [(), ()])

    def test_names_and_long_weavings(self):
        check_exact(self, only_view(hand=1, weaving=((0, 0), (1, 0)), hall=Hall(TWO)), (1,))
        for hall_text in STILL_TEXTS + MOVING_TEXTS:
            plain = Plain(hall_text)
            weaving = plain.odd_weaving(Numbers(1606), 400)
            for hand in range(len(plain.hands)):
                check_exact(self, only_view(Hall(hall_text), weaving, hand), plain_only_view(plain, weaving, hand))

    def test_wrong_hands(self):
        for value in NO_INTEGERS + (-1, 3, GREAT, -GREAT):
            check_error(self, "BadHand", value, only_view, Hall(AWAY), ((0, 0), (1, 0)), value)


class ErrorsTest(unittest.TestCase):
    def test_wrong_weavings_first(self):
        check_wrong_weavings(self, [
            lambda hall, weaving: taken_back(hall, weaving, 0), lambda hall, weaving: taken_back(hall, weaving, None),
            lambda hall, weaving: done_again(hall, weaving, ()), lambda hall, weaving: done_again(hall, weaving, None),
            lambda hall, weaving: only_view(hall, weaving, 0), lambda hall, weaving: only_view(hall, weaving, None)])


if __name__ == "__main__":
    unittest.main()
