"""Point 5: rows, stories, levels, least weavings, exchanges, beginnings."""

import unittest
from itertools import product

from meetbooks.halls import Hall
from meetbooks.stories import (
    hand_row, is_beginning, least_weaving, led_over, same_story, shows_led_over, story_levels)
from meetbooks.weavings import are_strangers, next_kinds, standing_of
from tests.plain import (
    ALONE, CHAIN, COMING, EIGHT, EXAMPLE, GREAT, NO_INTEGERS, NO_TUPLES, PAIR, ROW, TEXTS, THREE, TWO, Numbers, Plain,
    check_error, check_exact, check_wrong_weavings, odd_cases)


def swapped(weaving, place):
    return weaving[:place] + (weaving[place + 1], weaving[place]) + weaving[place + 2:]


class RowsTest(unittest.TestCase):
    def test_rows_of_all_hands(self):
        for hall, plain, weaving, _ in odd_cases(31, 300, 12):
            for hand in range(len(hall.hands)):
                check_exact(self, hand_row(hall, weaving, hand), plain.row(weaving, hand))

    def test_who_is_begun_is_in_the_row(self):
        hall = Hall(PAIR)
        weaving = ((0, 3), (1, 4), (2, 5), (0, 6))
        check_exact(self, [hand_row(hall, weaving, hand) for hand in (0, 1)], [weaving, weaving])
        hall = Hall(COMING)
        check_exact(self, [hand_row(hall, ((2, 0), (3, 1)), hand) for hand in range(4)],
                    [((2, 0),), ((2, 0), (3, 1)), (), ((3, 1),)])

    def test_no_hand(self):
        for hall, many in ((Hall(TWO), 2), (Hall(ALONE), 5)):
            self.assertEqual(hand_row(hall, (), many - 1), ())
            for value in NO_INTEGERS + (-1, many, many + 1, GREAT, -GREAT, "b"):
                check_error(self, "BadHand", value, hand_row, hall, (), value)
                check_error(self, "BadHand", value, hand_row, hall, ((0, 0),), value)
                check_error(self, "BadWeaving", 0, hand_row, hall, (None,), value)


class SameStoryTest(unittest.TestCase):
    def test_exchanges_keep_the_story(self):
        for hall, plain, weaving, _ in odd_cases(32, 150, 6):
            for other in plain.story(weaving):
                check_exact(self, same_story(hall, weaving, other), ("same",))
                check_exact(self, same_story(hall, other, weaving), ("same",))
                check_exact(self, standing_of(hall, other), standing_of(hall, weaving))
                check_exact(self, next_kinds(hall, other), next_kinds(hall, weaving))

    def test_all_pairs_of_short_weavings(self):
        for text in (ROW, THREE, PAIR, EXAMPLE, COMING):
            hall, plain = Hall(text), Plain(text)
            weavings = [tuple((kind, 0) for kind in row) for many in range(3) for row in plain.kinds_of(many)]
            weavings += [((kind, 1),) for kind in plain.next_kinds(plain.start())]
            for one in weavings:
                story = plain.story(one)
                for other in weavings:
                    told = same_story(hall, one, other)
                    check_exact(self, told, plain_parts(plain, one, other))
                    self.assertEqual(told == ("same",), other in story)

    def test_odd_pairs(self):
        for hall, plain, weaving, numbers in odd_cases(33, 300, 9):
            for other in (plain.odd_weaving(numbers, 9, 2), weaving[:numbers.below(9)],
                          changed_load(weaving, numbers)):
                check_exact(self, same_story(hall, weaving, other), plain_parts(plain, weaving, other))
                check_exact(self, same_story(hall, other, weaving), plain_parts(plain, other, weaving))

    def test_the_least_hand_and_the_place(self):
        hall = Hall(THREE)
        x, y, z, u = (0, 0), (1, 0), (2, 0), (3, 0)
        for one, other, hand, place in (
                ((x,), (), 0, 0), ((x, x), (x,), 0, 1), ((y,), (x,), 0, 0), ((y, u), (u,), 1, 0), ((u,), (u, u), 2, 1),
                ((x, z), (z, x), 0, 0), ((y, z), (z, y), 1, 0),
                ((x, y, y), (x, y), 1, 1), ((x, u, y), (x, y, u, u), 2, 1), ((z, y, u), (z, u), 1, 1),
                ((x,), ((0, 1),), 0, 0), ((x, (3, 5)), (x, (3, -5)), 2, 0)):
            check_exact(self, same_story(hall, one, other), ("parts", hand, place))
            check_exact(self, same_story(hall, other, one), ("parts", hand, place))

    def test_one_ahead_of_other(self):
        hall = Hall(THREE)
        check_error(self, "BadWeaving", -1, same_story, hall, None, ((9, 0),))
        check_error(self, "BadWeaving", 0, same_story, hall, ((9, 0),), None)
        check_error(self, "BadWeaving", 1, same_story, hall, ((0, 0),), ((0, 0), (True, 0)))


def plain_parts(plain, one, other):
    for hand in range(len(plain.hands)):
        mine, its = plain.row(one, hand), plain.row(other, hand)
        if mine != its:
            place = 0
            while mine[:place + 1] == its[:place + 1]:
                place += 1
            return ("parts", hand, place)
    return ("same",)


def changed_load(weaving, numbers):
    place = numbers.below(len(weaving) + 1)
    return tuple((kind, load + (at == place)) for at, (kind, load) in enumerate(weaving))


class LevelsTest(unittest.TestCase):
    def test_levels_by_the_definition(self):
        for hall, plain, weaving, _ in odd_cases(34, 300, 10):
            check_exact(self, story_levels(hall, weaving), plain_levels(plain, weaving))

    def test_levels_tell_the_story(self):
        for hall, plain, weaving, numbers in odd_cases(35, 150, 6):
            levels = story_levels(hall, weaving)
            for other in plain.story(weaving):
                check_exact(self, story_levels(hall, other), levels)
            for other in (plain.odd_weaving(numbers, 6, 2), changed_load(weaving, numbers), weaving[:-1]):
                self.assertEqual(story_levels(hall, other) == levels, plain.rows(other) == plain.rows(weaving))

    def test_levels_are_ascending(self):
        hall = Hall(ALONE)
        check_exact(self, story_levels(hall, ((4, -1), (0, 5), (2, 0), (2, -3))),
                    (((0, 5), (2, 0), (4, -1)), ((2, -3),)))
        check_exact(self, story_levels(hall, ()), ())

    def test_a_level_behind_a_gap(self):
        hall = Hall(THREE)
        check_exact(self, story_levels(hall, ((0, 0), (0, 1), (2, 0), (3, 0), (1, 0))),
                    (((0, 0), (3, 0)), ((0, 1),), ((2, 0),), ((1, 0),)))


def plain_levels(plain, weaving):
    heights = []
    for number, (kind, _) in enumerate(weaving):
        ahead = [heights[other] for other in range(number) if not plain.strangers(kind, weaving[other][0])]
        heights.append(max(ahead) + 1 if ahead else 0)
    return tuple(tuple(sorted(meeting for meeting, height in zip(weaving, heights) if height == level))
                 for level in range(max(heights, default=-1) + 1))


class LeastWeavingTest(unittest.TestCase):
    def test_the_least_of_all_that_exchanges_reach(self):
        for hall, plain, weaving, _ in odd_cases(36, 250, 7, loads=3):
            story = plain.story(weaving)
            for other in list(story)[:40]:
                check_exact(self, least_weaving(hall, other), min(story))

    def test_loads_of_any_size(self):
        hall = Hall(ALONE)
        check_exact(self, least_weaving(hall, ((2, -GREAT), (1, GREAT), (1, -GREAT), (0, 3))),
                    ((0, 3), (1, GREAT), (1, -GREAT), (2, -GREAT)))
        check_exact(self, least_weaving(hall, ()), ())

    def test_kinds_ahead_of_loads(self):
        check_exact(self, least_weaving(Hall(THREE), ((3, -9), (1, 0), (0, 9))), ((0, 9), (1, 0), (3, -9)))

    def test_what_hangs_on_something_greater_waits(self):
        check_exact(self, least_weaving(Hall(ROW), ((2, 0), (1, 0), (0, 0))), ((2, 0), (0, 0), (1, 0)))


def inverted_pairs(one, other):
    """How many pairs of meetings stand in opposite order in two weavings of one story."""
    names = [(meeting, one[:place].count(meeting)) for place, meeting in enumerate(one)]
    places = {(meeting, other[:place].count(meeting)): place for place, meeting in enumerate(other)}
    row = [places[name] for name in names]
    return sum(row[low] > row[high] for high in range(len(row)) for low in range(high))


class LedOverTest(unittest.TestCase):
    def check_led(self, hall, one, other):
        places = led_over(hall, one, other)
        self.assertIs(type(places), tuple)
        weaving = one
        for place in places:
            self.assertIs(type(place), int)
            self.assertIn(place, range(len(one) - 1))
            self.assertTrue(are_strangers(hall, weaving[place][0], weaving[place + 1][0]))
            weaving = swapped(weaving, place)
        self.assertEqual(weaving, other)
        self.assertEqual(len(places), inverted_pairs(one, other))
        self.assertIs(shows_led_over(hall, one, other, places), True)
        return places

    def test_all_weavings_of_a_story(self):
        for hall, plain, weaving, _ in odd_cases(37, 120, 6, loads=1):
            story = plain.story(weaving)
            for other, fewest in story.items():
                self.assertEqual(len(self.check_led(hall, weaving, other)), fewest)
                self.assertEqual(len(self.check_led(hall, other, weaving)), fewest)

    def test_equal_meetings_keep_their_order(self):
        hall = Hall(TWO)
        x, y = (0, 0), (1, 0)
        self.assertEqual(len(self.check_led(hall, (x, x, y), (y, x, x))), 2)
        self.assertEqual(len(self.check_led(hall, (x, y, x, y), (y, y, x, x))), 3)
        check_exact(self, led_over(hall, (x, x), (x, x)), ())
        check_exact(self, led_over(hall, (), ()), ())
        check_exact(self, led_over(hall, (x, y), (y, x)), (0,))
        check_exact(self, led_over(hall, (x, x, y), (y, x, x)), (1, 0))

    def test_unlike_stories(self):
        for hall, plain, weaving, numbers in odd_cases(38, 200, 6):
            for other in (plain.odd_weaving(numbers, 6, 2), weaving[:-1], changed_load(weaving, numbers)):
                told = plain_parts(plain, weaving, other)
                if told != ("same",):
                    check_error(self, "NotSame", told, led_over, hall, weaving, other)
                    check_error(self, "NotSame", told, shows_led_over, hall, weaving, other, ())
                    check_error(self, "NotSame", told, shows_led_over, hall, weaving, other, None)

    def test_weavings_ahead_of_all_else(self):
        hall = Hall(TWO)
        for call in (led_over, lambda *given: shows_led_over(*given, None),
                     lambda *given: shows_led_over(*given, (0,))):
            check_error(self, "BadWeaving", -1, call, hall, [], [(9, 0)])
            check_error(self, "BadWeaving", 0, call, hall, ((9, 0),), None)
            check_error(self, "BadWeaving", 1, call, hall, ((0, 0),), ((0, 0), (3, 0)))
            check_error(self, "NotSame", ("parts", 0, 0), call, hall, ((0, 0),), ())


class ShowsLedOverTest(unittest.TestCase):
    def test_just_the_shortest_ways(self):
        for text, loads in ((TWO, 1), (THREE, 1), (ROW, 1), (COMING, 1)):
            hall, plain, numbers = Hall(text), Plain(text), Numbers(40)
            for _ in range(6):
                one = plain.odd_weaving(numbers, 4, loads)
                for other, fewest in plain.story(one).items():
                    for many in range(fewest + 2):
                        for value in product(range(-1, len(one)), repeat=many):
                            self.assertIs(shows_led_over(hall, one, other, value),
                                          many == fewest and leads(plain, one, other, value))

    def test_ways_that_led_over_need_not_return(self):
        hall = Hall(ALONE)
        one, other = ((2, 0), (1, 0), (0, 0)), ((0, 0), (1, 0), (2, 0))
        self.assertIs(shows_led_over(hall, one, other, (0, 1, 0)), True)
        self.assertIs(shows_led_over(hall, one, other, (1, 0, 1)), True)
        self.assertIs(shows_led_over(hall, one, other, (1, 1, 0)), False)

    def test_one_place_more_less_or_twice(self):
        hall = Hall(TWO)
        one, other = ((0, 0), (1, 0), (1, 0)), ((1, 0), (1, 0), (0, 0))
        self.assertIs(shows_led_over(hall, one, other, (0, 1)), True)
        for value in ((0,), (1,), (), (0, 1, 1), (0, 0, 0, 1), (0, 1, 1, 1), (1, 0), (0, 0), (0, 2), (0, -2), (0, -1),
                      (0, 10 ** 299), (-3, 1), (0, 1, None)):
            self.assertIs(shows_led_over(hall, one, other, value), False)

    def test_equal_meetings_are_not_exchanged(self):
        hall = Hall(TWO)
        self.assertIs(shows_led_over(hall, ((0, 0), (0, 0)), ((0, 0), (0, 0)), (0,)), False)
        self.assertIs(shows_led_over(hall, ((0, 0), (0, 0)), ((0, 0), (0, 0)), ()), True)

    def test_other_values(self):
        hall = Hall(TWO)
        one, other = ((0, 0), (1, 0), (1, 0)), ((1, 0), (1, 0), (0, 0))
        for value in NO_TUPLES + ([0, 1], {0: 1}, "01", 2):
            self.assertIs(shows_led_over(hall, one, other, value), False)
        for value in NO_INTEGERS:
            self.assertIs(shows_led_over(hall, one, other, (0, value)), False)
            self.assertIs(shows_led_over(hall, one, other, (value, 1)), False)
            self.assertIs(shows_led_over(hall, one, other, (value,)), False)
        self.assertIs(shows_led_over(hall, one, other, ((0, 1),)), False)
        self.assertIs(shows_led_over(hall, (), (), []), False)
        self.assertIs(shows_led_over(hall, (), (), ()), True)
        self.assertIs(shows_led_over(hall, (), (), (0,)), False)


def leads(plain, one, other, places):
    weaving = one
    for place in places:
        if not 0 <= place < len(one) - 1 or not plain.strangers(weaving[place][0], weaving[place + 1][0]):
            return False
        weaving = swapped(weaving, place)
    return weaving == other


class BeginningTest(unittest.TestCase):
    def test_some_weaving_starts_so(self):
        for hall, plain, weaving, numbers in odd_cases(41, 150, 6):
            story = list(plain.story(weaving))
            heads = {other[:many] for other in story for many in range(len(weaving) + 1)}
            odd = [plain.odd_weaving(numbers, 3, 2) for _ in range(5)]
            for one in sorted(heads)[:60] + odd + [changed_load(head, numbers) for head in sorted(heads)[:10]]:
                for other in (weaving, numbers.one_of(story)):
                    self.assertIs(is_beginning(hall, one, other), one in heads)

    def test_longer_ones_are_no_beginnings(self):
        for hall, _, weaving, _ in odd_cases(42, 60, 6):
            if weaving:
                self.assertIs(is_beginning(hall, weaving, weaving), True)
                self.assertIs(is_beginning(hall, weaving, weaving[:-1]), False)
                self.assertIs(is_beginning(hall, (), weaving), True)

    def test_one_ahead_of_other(self):
        hall = Hall(CHAIN)
        check_error(self, "BadWeaving", -1, is_beginning, hall, [], [(9, 0)])
        check_error(self, "BadWeaving", 0, is_beginning, hall, ((9, 0),), [])
        check_error(self, "BadWeaving", 2, is_beginning, hall, ((0, 0),), ((0, 0), (1, 0), (-1, 0)))


class WrongWeavingsTest(unittest.TestCase):
    CALLS = (lambda hall, weaving: hand_row(hall, weaving, 0), lambda hall, weaving: hand_row(hall, weaving, None),
             lambda hall, weaving: same_story(hall, weaving, ()), lambda hall, weaving: same_story(hall, (), weaving),
             story_levels, least_weaving, lambda hall, weaving: led_over(hall, weaving, ()),
             lambda hall, weaving: led_over(hall, (), weaving),
             lambda hall, weaving: shows_led_over(hall, weaving, (), ()),
             lambda hall, weaving: shows_led_over(hall, (), weaving, ()),
             lambda hall, weaving: is_beginning(hall, weaving, ()),
             lambda hall, weaving: is_beginning(hall, (), weaving))

    def test_what_is_no_weaving(self):
        check_wrong_weavings(self, self.CALLS)


class LimitsTest(unittest.TestCase):
    def test_weavings_of_400_meetings(self):
        for text in (ALONE, EIGHT, TWO, COMING, PAIR):
            hall, plain, numbers = Hall(text), Plain(text), Numbers(43)
            one = tuple((kind, GREAT - load) for kind, load in plain.odd_weaving(numbers, 400))
            least = least_weaving(hall, one)
            check_exact(self, same_story(hall, one, least), ("same",))
            check_exact(self, least_weaving(hall, least), least)
            check_exact(self, story_levels(hall, least), story_levels(hall, one))
            self.assertEqual(sum(len(level) for level in story_levels(hall, one)), len(one))
            places = led_over(hall, one, least)
            self.assertEqual(len(places), inverted_pairs(one, least))
            self.assertIs(shows_led_over(hall, one, least, places), True)
            self.assertIs(shows_led_over(hall, one, least, places + (0,)), False)
            self.assertIs(is_beginning(hall, one[:399], one), True)
            self.assertIs(is_beginning(hall, one, least[:399]), len(one) < 400)
            self.assertEqual([hand_row(hall, one, hand) for hand in range(len(hall.hands))],
                             [hand_row(hall, least, hand) for hand in range(len(hall.hands))])

    def test_as_many_exchanges_as_can_be(self):
        hall = Hall(TWO)
        one, other = ((1, 0),) * 200 + ((0, 0),) * 200, ((0, 0),) * 200 + ((1, 0),) * 200
        check_exact(self, least_weaving(hall, one), other)
        places = led_over(hall, one, other)
        self.assertEqual(len(places), 40000)
        self.assertIs(shows_led_over(hall, one, other, places), True)
        self.assertIs(shows_led_over(hall, other, one, tuple(reversed(places))), True)
        self.assertIs(shows_led_over(hall, one, other, places[:-1] + ((places[-1] + 1) % 399,)), False)


class ConventionsTest(unittest.TestCase):
    def test_by_names(self):
        hall, one, other = Hall(TWO), ((0, 0), (1, 0)), ((1, 0), (0, 0))
        self.assertEqual(hand_row(hand=1, weaving=one, hall=hall), ((1, 0),))
        self.assertEqual(same_story(other=one[:1], one=one, hall=hall), ("parts", 1, 0))
        self.assertEqual(story_levels(weaving=one, hall=hall), (((0, 0), (1, 0)),))
        self.assertEqual(least_weaving(weaving=other, hall=hall), one)
        self.assertEqual(led_over(other=other, one=one, hall=hall), (0,))
        self.assertIs(shows_led_over(value=(0,), other=other, one=one, hall=hall), True)
        self.assertIs(is_beginning(other=one, one=one[:1], hall=hall), True)
        self.assertIs(is_beginning(other=one[:1], one=one, hall=hall), False)

    def test_results_are_tuples_and_arguments_stay(self):
        value = [0, [1]]
        for text in TEXTS:
            hall, plain = Hall(text), Plain(text)
            weaving = plain.odd_weaving(Numbers(3), 6)
            for told in (hand_row(hall, weaving, 0), same_story(hall, weaving, ()), story_levels(hall, weaving),
                         least_weaving(hall, weaving), led_over(hall, weaving, least_weaving(hall, weaving))):
                self.assertIs(type(told), tuple)
                self.assertNotIn("[", repr(told))
            shows_led_over(hall, weaving, weaving, value)
        self.assertEqual(value, [0, [1]])


if __name__ == "__main__":
    unittest.main()
