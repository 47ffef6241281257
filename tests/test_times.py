"""Point 14: begins and ends, chains and slack, lateness, the means of rounds."""

import unittest
from fractions import Fraction

from meetbooks.halls import Hall
from meetbooks.scales import Scale
from meetbooks.times import ends_of, heaviest_chain, lateness, moments_of, round_mean, slack_of
from tests.plain import (
    ALONE, AWAY, CHAIN, COMING, EIGHT, GREAT, HEIRS, MOVING_TEXTS, NO_INTEGERS, NO_MEETINGS, NO_TUPLES, PAIR, ROW,
    STILL_TEXTS, TEXTS, THREE, TWO, Numbers, Plain, check_error, check_exact, error_of, odd_hall_text)
from tests.plain_times import PlainClock, times_done, waits_text
from tests.plain_values import WORDS, any_text, scale_text

RING = ("hands p q r s t\ntaken p q r s t\nmeet a p r\nmeet b r\nmeet c r s\nmeet d s\nmeet e s q\nmeet f q t\n"
        "meet g t p")
RING_ROUND = ((0, 0), (1, 0), (2, 0), (3, 0), (5, 0), (4, 0), (6, 0))
CALLS = ((moments_of, ()), (ends_of, ()), (heaviest_chain, ()), (slack_of, (0,)), (lateness, (0, 0)), (round_mean, ()))


def cases(seed, many, longest, least=-4, greatest=9):
    """(scale, weaving, clock, numbers)."""
    numbers = Numbers(seed)
    for place in range(many):
        hall_text = TEXTS[place % len(TEXTS)] if place % 3 else odd_hall_text(numbers)
        text = waits_text(numbers, hall_text, least, greatest)
        weaving = Plain(hall_text).odd_weaving(numbers, numbers.below(longest + 1), 1)
        weaving = tuple((kind, numbers.one_of((0, 0, 1, -1, -9, 7))) for kind, _ in weaving)
        yield Scale(Hall(hall_text), text), weaving, PlainClock(hall_text, text, weaving), numbers


class MomentsTest(unittest.TestCase):
    def test_beside_a_plain_clock(self):
        below = 0
        for scale, weaving, clock, _ in cases(1401, 300, 14):
            check_exact(self, moments_of(scale, weaving), clock.moments())
            check_exact(self, ends_of(scale, weaving), clock.ends())
            below += any(end < 0 for end in clock.ends())
        self.assertGreater(below, 50)

    def test_ends_below_nought(self):
        scale = Scale(Hall(TWO), "waits\nx -3\ny 2\nz 1")
        check_exact(self, moments_of(scale, ((0, 0), (0, 0), (2, 0))), ((0, -3), (-3, -6), (0, 1)))
        check_exact(self, moments_of(scale, ((0, 0), (1, -9), (2, 0))), ((0, -3), (0, -7), (-3, -2)))
        check_exact(self, ends_of(scale, ((0, 0), (0, 1))), (-5, 0))
        check_exact(self, ends_of(scale, ((1, -2), (0, 0))), (-3, 0))
        check_exact(self, heaviest_chain(scale, ((0, 0), (0, 0))), (-3, (0,)))

    def test_a_name_that_was_away(self):
        scale = Scale(Hall(PAIR), "waits\ns 2\nt 10\ne 5")  # s begins b, e ends b
        weaving = ((0, 0), (2, 0), (0, 1), (1, 0))
        check_exact(self, moments_of(scale, weaving), ((0, 2), (2, 7), (7, 10), (10, 20)))
        check_exact(self, ends_of(scale, weaving[:2]), (7, 7))
        # c ends, b goes on alone and begins c anew: what c had done before counts for c.
        hall = Hall("hands a b c\ntaken a b c\nmeet x a c ends c\nmeet y b\nmeet z a begins c\nmeet w c b")
        scale = Scale(hall, "waits\nx 9\ny 1\nz -4\nw 1")
        weaving = ((0, 0), (1, 0), (2, 0), (3, 0))
        check_exact(self, moments_of(scale, weaving), ((0, 9), (0, 1), (9, 5), (5, 6)))
        check_exact(self, lateness(scale, weaving, 0, 1), -3)

    def test_all_weavings_of_one_story(self):
        for scale, weaving, clock, numbers in cases(1402, 90, 6):
            for other in clock.plain.story(weaving):
                check_exact(self, ends_of(scale, other), clock.ends())
                told = moments_of(scale, other)
                self.assertEqual(sorted(zip(other, told)), sorted(zip(weaving, clock.moments())))
                check_exact(self, heaviest_chain(scale, other)[0], heaviest_chain(scale, weaving)[0])
                self.check_each(scale, weaving, other, clock)

    def check_each(self, scale, weaving, other, clock):
        """Meeting by meeting: the same slack and the same lateness."""
        left = list(enumerate(weaving))
        for number, meeting in enumerate(other):
            at = [place for place, one in left if one == meeting][0]
            left.remove((at, meeting))
            check_exact(self, slack_of(scale, other, number), slack_of(scale, weaving, at))
            for hand in clock.hands:
                check_exact(self, lateness(scale, other, number, hand), lateness(scale, weaving, at, hand))

    def test_names_of_arguments(self):
        scale = Scale(Hall(TWO), "waits\nx 1\ny 2\nz 3")
        weaving = ((0, 0), (2, 1))
        check_exact(self, moments_of(weaving=weaving, scale=scale), ((0, 1), (1, 5)))
        check_exact(self, ends_of(weaving=weaving, scale=scale), (5, 5))
        check_exact(self, heaviest_chain(weaving=weaving, scale=scale), (5, (0, 1)))
        check_exact(self, slack_of(number=0, weaving=weaving, scale=scale), 0)
        check_exact(self, lateness(hand=1, number=0, weaving=weaving, scale=scale), 4)
        check_exact(self, round_mean(weaving=weaving, scale=scale), (5, 1, (0,)))

    def test_loads_of_300_figures(self):
        scale = Scale(Hall(TWO), "waits\nx 1\ny 2\nz -3")
        weaving = ((0, GREAT), (1, -GREAT), (2, GREAT), (1, GREAT))
        check_exact(self, ends_of(scale, weaving), (2 * GREAT - 2, 3 * GREAT))
        check_exact(self, heaviest_chain(scale, weaving), (3 * GREAT, (0, 2, 3)))
        check_exact(self, slack_of(scale, weaving, 1), 2 * GREAT - 1)
        check_exact(self, lateness(scale, weaving, 1, 0), 3 * GREAT - 4)
        check_exact(self, round_mean(scale, weaving), PlainClock(TWO, scale.text, weaving).round_mean())


class ChainTest(unittest.TestCase):
    def test_beside_all_chains(self):
        for scale, weaving, clock, _ in cases(1403, 260, 9):
            check_exact(self, heaviest_chain(scale, weaving), clock.heaviest())

    def test_several_of_one_weight(self):
        # Few unlike durations, many of them 0: the least of all heaviest chains.
        several = 0
        for scale, weaving, clock, numbers in cases(1404, 200, 9, 0, 0):
            for loads in ((0,), (0, 0, 1), (0, 1, -1)):
                few = tuple((kind, numbers.one_of(loads)) for kind, _ in weaving)
                told = PlainClock(scale.hall.text, scale.text, few)
                check_exact(self, heaviest_chain(scale, few), told.heaviest())
                chains = list(told.ways(sorted({row[0] for row in told.rows if row})))
                several += sum(told.weight(chain) == told.heaviest()[0] for chain in chains) > 1
        self.assertGreater(several, 200)

    def test_no_meetings(self):
        for hall_text in TEXTS:
            scale = Scale(Hall(hall_text), scale_text(hall_text, "waits", lambda kind: (kind,)))
            check_exact(self, heaviest_chain(scale, ()), (0, ()))
            check_exact(self, moments_of(scale, ()), ())
            check_exact(self, ends_of(scale, ()), (0,) * len(scale.hall.hands))

    def test_chains_begin_where_some_hand_has_no_earlier_meeting(self):
        scale = Scale(Hall(TWO), "waits\nx -5\ny 1\nz 3")
        # b has no meeting ahead of z: what a did before does not make it earlier.
        check_exact(self, heaviest_chain(scale, ((0, 0), (2, 0))), (3, (1,)))
        check_exact(self, heaviest_chain(scale, ((0, 0), (1, -9), (2, 0))), (-2, (0, 2)))
        check_exact(self, heaviest_chain(scale, ((1, -1), (0, 5))), (0, (0,)))
        check_exact(self, heaviest_chain(scale, ((0, 5), (2, -3))), (0, (0,)))


class SlackTest(unittest.TestCase):
    def test_just_so_much_and_no_more(self):
        seen = {0: 0, 1: 0}
        for scale, weaving, clock, _ in cases(1405, 200, 10):
            for number, (kind, load) in enumerate(weaving):
                slack = slack_of(scale, weaving, number)
                self.assertEqual(type(slack), int)
                self.assertGreaterEqual(slack, 0)
                latest = []
                for more in (slack, slack + 1):
                    longer = weaving[:number] + ((kind, load + more),) + weaving[number + 1:]
                    latest.append(PlainClock(scale.hall.text, scale.text, longer).latest())
                self.assertEqual(latest[0], clock.latest())
                self.assertGreater(latest[1], clock.latest())
                seen[min(slack, 1)] += 1
        self.assertGreater(min(seen.values()), 200)


class LatenessTest(unittest.TestCase):
    def test_beside_pasts(self):
        told = {"none": 0, "own": 0, "below": 0, "others": 0}
        for scale, weaving, clock, _ in cases(1406, 200, 10):
            for number in range(len(weaving)):
                for hand in clock.hands:
                    late = lateness(scale, weaving, number, hand)
                    check_exact(self, late, clock.lateness(number, hand))
                    told["none"] += late is None
                    told["own"] += hand in clock.lots[number]
                    told["below"] += late is not None and late < 0
                    told["others"] += late is not None and hand not in clock.lots[number]
                    if hand in clock.lots[number]:
                        check_exact(self, late, 0)
        self.assertGreater(min(told.values()), 40)

    def test_heard_through_others(self):
        scale = Scale(Hall(CHAIN), "waits\nx 2\ny 3\nz 4")  # x of a and b, y of b and c, z of c
        weaving = ((0, 0), (2, 0), (1, 0), (2, -20))
        check_exact(self, [lateness(scale, weaving, 0, hand) for hand in range(3)], [0, 0, 5])
        check_exact(self, [lateness(scale, weaving, 1, hand) for hand in range(3)], [None, 3, 0])
        check_exact(self, [lateness(scale, weaving, 3, hand) for hand in range(3)], [None, None, 0])
        check_exact(self, lateness(scale, ((0, 9), (1, -30)), 0, 2), -27)


class RoundTest(unittest.TestCase):
    def test_beside_all_rings(self):
        seen = {"round": 0, "not": 0, "below": 0}
        for scale, weaving, clock, _ in cases(1407, 420, 7, -9, 6):
            many = times_done(clock.plain, weaving)
            if many is not None:
                self.assertGreater(many, 0)
                check_error(self, "NotRound", many, round_mean, scale, weaving)
                seen["not"] += 1
                continue
            told = round_mean(scale, weaving)
            check_exact(self, told, clock.round_mean())
            seen["round"] += 1
            seen["below"] += told[0] < 0
        self.assertGreater(min(seen.values()), 20)

    def test_still_halls_beside_all_rings(self):
        numbers = Numbers(1408)
        seen = {"below": 0, "parts": 0, "several hands": 0}
        for place in range(700):
            hall_text = (RING, RING, EIGHT, CHAIN, ROW, THREE)[place % 6]
            text = waits_text(numbers, hall_text, -9, 9)
            weaving = Plain(hall_text).odd_weaving(numbers, 9)
            weaving = RING_ROUND[:5 + numbers.below(3)] if hall_text == RING else weaving
            slow = (1, 3) if hall_text == RING else ()
            weaving = tuple((kind, 40 if kind in slow else numbers.below(3)) for kind, _ in weaving)
            clock = PlainClock(hall_text, text, weaving)
            told = round_mean(Scale(Hall(hall_text), text), weaving)
            check_exact(self, told, clock.round_mean())
            seen["below"] += told[0] < 0
            seen["parts"] += told[1] > 1
            seen["several hands"] += len(told[2]) > 1
        self.assertGreater(min(seen.values()), 2)

    def test_several_rings_of_one_mean(self):
        scale = Scale(Hall(THREE), "waits\nx 2\ny 2\nz 0\nu 2")
        check_exact(self, round_mean(scale, ((1, 0), (0, 0))), (2, 1, (0,)))
        check_exact(self, round_mean(scale, ((3, 1), (1, 1), (0, 0))), (3, 1, (1,)))
        check_exact(self, round_mean(scale, ((2, 2),)), (2, 1, (0,)))
        check_exact(self, round_mean(scale, ((0, -2), (1, -2))), (0, 1, (0,)))

    def test_rings_of_several_hands(self):
        # p leads on over r and s to q, and q over t to p: no hand alone is as slow as these two.
        for kept, mean in (((1, 100, 1, 100, 1, 1, 1), (205, 2, (0, 1))), ((1, 100, 2, 100, 1, 1, 1), (103, 1, (0, 1))),
                           ((-1, -100, -1, -100, -1, -1, -1), (-5, 3, (2, 4, 3)))):
            text = scale_text(RING, "waits", lambda kind: (kept[kind],))
            check_exact(self, round_mean(Scale(Hall(RING), text), RING_ROUND), mean)
            check_exact(self, PlainClock(RING, text, RING_ROUND).round_mean(), mean)
        scale = Scale(Hall(CHAIN), "waits\nx 4\ny 3\nz -1")
        for weaving in (((0, 0), (1, 0)), ((1, 0), (0, 0)), ((1, 0), (2, 0), (0, 0)), ((0, 0), (2, 0), (1, 1))):
            check_exact(self, round_mean(scale, weaving), PlainClock(CHAIN, scale.text, weaving).round_mean())

    def test_beside_many_rounds(self):
        for scale, weaving, clock, _ in cases(1409, 160, 6, -9, 6):
            if not weaving or times_done(clock.plain, weaving) is not None:
                continue
            top, low, _ = round_mean(scale, weaving)
            rounds = 400 // len(weaving)
            moments = moments_of(scale, weaving * rounds)
            latest = max(end for _, end in moments[-len(weaving):])
            # How far apart they can be does not depend on how many rounds there are.
            apart = 20 * (1 + sum(abs(duration) for duration in clock.durations))
            self.assertLessEqual(abs(latest - rounds * Fraction(top, low)), apart)

    def test_no_meetings(self):
        for hall_text in TEXTS:
            scale = Scale(Hall(hall_text), scale_text(hall_text, "waits", lambda kind: (kind,)))
            check_exact(self, round_mean(scale, ()), (0, 1, ()))

    def test_rounds_that_end_as_they_began(self):
        scale = Scale(Hall(PAIR), "waits\ns 2\nt 4\ne 1")
        check_exact(self, round_mean(scale, ((0, 0), (1, 0), (2, 0))), (7, 1, (0,)))
        check_exact(self, round_mean(scale, ((0, 0), (2, 0))), (3, 1, (0,)))

    def test_rounds_that_do_not_end_as_they_began(self):
        # c gives the right to begin b to a; from then on a has it ahead of the round and behind it.
        hall = Hall("hands a b c\ntaken a c\nright b c\nmeet r c a gives b\nmeet s a")
        check_exact(self, round_mean(Scale(hall, "waits\nr 2\ns 1"), ((0, 0), (1, 0))), (3, 1, (0,)))
        # b ends and what it may begin is a's: then c is a's to begin.
        hall = Hall("hands a b c\ntaken a b\nright c b\nmeet r a b ends b\nmeet s a begins b")
        check_exact(self, round_mean(Scale(hall, "waits\nr 2\ns 1"), ((0, 0), (1, 0))), (3, 1, (0,)))

    def test_what_can_be_done_once_only(self):
        scale = Scale(Hall(PAIR), "waits\ns 2\nt 4\ne 1")
        for weaving in (((0, 0),), ((0, 0), (1, 0)), ((0, 0), (2, 0), (0, 0))):
            check_error(self, "NotRound", 1, round_mean, scale, weaving)
        hall = Hall("hands a b c d\ntaken a b\nright c a\nright d a\nmeet x a begins c\nmeet g a b gives d\n"
                    "meet y a c gives d\nmeet z b")
        scale = Scale(hall, "waits\nx 1\ng 1\ny 1\nz 1")
        check_error(self, "NotRound", 1, round_mean, scale, ((0, 0),))
        check_error(self, "NotRound", 1, round_mean, scale, ((0, 0), (2, 0), (3, 0)))
        check_exact(self, round_mean(scale, ((1, 0), (3, 0))), (2, 1, (1,)))

    def test_what_can_be_done_twice_is_a_round(self):
        # A round decides how all stand that it begins, ends or gives, and asks for nothing else.
        numbers = Numbers(1410)
        seen = {None: 0, 1: 0}
        for _ in range(1500):
            hall_text = odd_hall_text(numbers, 3 + numbers.below(3), 6)
            plain = Plain(hall_text)
            weaving = plain.odd_weaving(numbers, 1 + numbers.below(4))
            many = times_done(plain, weaving)
            scale = Scale(Hall(hall_text), scale_text(hall_text, "waits", lambda kind: (kind,)))
            self.assertEqual(error_of(round_mean, scale, weaving), None if many is None else ("NotRound", many))
            seen[many] += 1
        self.assertGreater(min(seen.values()), 100)

    def test_four_hundred_meetings(self):
        for hall_text in STILL_TEXTS + MOVING_TEXTS:
            numbers = Numbers(1411)
            text = waits_text(numbers, hall_text)
            weaving = Plain(hall_text).odd_weaving(numbers, 400)
            scale, clock = Scale(Hall(hall_text), text), PlainClock(hall_text, text, weaving)
            for number in range(len(weaving)):
                clock.end(number)
            check_exact(self, moments_of(scale, weaving), clock.moments())
            check_exact(self, ends_of(scale, weaving), clock.ends())
            if weaving:
                weight, chain = heaviest_chain(scale, weaving)
                self.assertEqual((weight, clock.weight(chain)), (clock.latest(), clock.latest()))
                check_exact(self, [slack_of(scale, weaving, number) for number in chain[:3]], [0] * len(chain[:3]))
                check_exact(self, lateness(scale, weaving, 0, 0), clock.lateness(0, 0))
                many = times_done(clock.plain, weaving)
                self.assertEqual(error_of(round_mean, scale, weaving), None if many is None else ("NotRound", many))


class ErrorsTest(unittest.TestCase):
    def test_scales_of_other_words_first(self):
        numbers = Numbers(1412)
        for hall_text in (TWO, HEIRS, ALONE):
            for word in WORDS:
                if word == "waits":
                    continue
                scale = Scale(Hall(hall_text), any_text(numbers, hall_text, word))
                for call, given in CALLS:
                    for weaving in ((), ((0, 0),), None, ((0, 0, 0),)):
                        check_error(self, "NotWaits", word, call, scale, weaving, *given)
                        check_error(self, "NotWaits", word, call, scale, weaving, *[None for _ in given])
        both = "both\nwaits\nx 1\ny 2\nz 3\nand\nwaits\nx 1\ny 2\nz 3\nend"
        for call, given in CALLS:
            check_error(self, "NotWaits", "both", call, Scale(Hall(TWO), both), (), *given)

    def test_then_wrong_weavings(self):
        for hall_text in (EIGHT, PAIR):
            scale = Scale(Hall(hall_text), scale_text(hall_text, "waits", lambda kind: (kind,)))
            for call, given in CALLS:
                for value in NO_TUPLES:
                    check_error(self, "BadWeaving", -1, call, scale, value, *given)
                    check_error(self, "BadWeaving", -1, call, scale, value, *[None for _ in given])
                for value in NO_MEETINGS:
                    check_error(self, "BadWeaving", 1, call, scale, ((0, 1), value), *[None for _ in given])
        for call, given in CALLS:
            check_error(self, "BadWeaving", 2, call, scale, ((0, 0), (2, 0), (1, 0)), *given)

    def test_then_wrong_numbers_then_wrong_hands(self):
        scale = Scale(Hall(COMING), scale_text(COMING, "waits", lambda kind: (kind,)))
        weaving = ((0, 0), (1, 0))
        for value in NO_INTEGERS + (-1, 2, 3, GREAT, -GREAT):
            check_error(self, "BadNumber", value, slack_of, scale, weaving, value)
            for hand in (0, None, 4):
                check_error(self, "BadNumber", value, lateness, scale, weaving, value, hand)
        for value in NO_INTEGERS + (-1, 4, GREAT):
            check_error(self, "BadHand", value, lateness, scale, weaving, 1, value)
        for number in (0, 1, -1, None):
            check_error(self, "BadNumber", number, slack_of, scale, (), number)


if __name__ == "__main__":
    unittest.main()
