"""Point 7: how many stories and weavings there are, which story has which number."""

import unittest
from math import comb, factorial

from meetbooks.counts import (
    nth_story, stranger_series, stranger_sets, story_count, story_number, weaving_count, weavings_of)
from meetbooks.halls import Hall
from meetbooks.stories import least_weaving
from meetbooks.weavings import next_kinds, standing_of
from tests.plain import (
    ALONE, AWAY, CHAIN, COMING, EIGHT, EXAMPLE, GREAT, HEIRS, LONE, NO_INTEGERS, ONE_MORE_STANDING, PAIR, ROW,
    STILL_TEXTS, TEXTS, THIRTY_STANDINGS, THREE, TWO, Numbers, Plain, check_error, check_exact, check_wrong_weavings,
    error_of, odd_hall_text)

NO_MANY = NO_INTEGERS + (-1, 61, 62, GREAT, -GREAT)
# Here a can meet alone as often as one likes, and thirty-two standings can come.
ENDLESS = THIRTY_STANDINGS.replace("meet u d a e ends d", "meet u d e a ends d")


def bare(kinds):
    return tuple((kind, 0) for kind in kinds)


def stories_of(plain, many):
    """The least weavings of all stories of so many meetings with loads 0, ascending; all weavings are gone through."""
    least = {}
    for kinds in plain.kinds_of(many):
        weaving = bare(kinds)
        rows = plain.rows(weaving)
        least[rows] = min(least.get(rows, weaving), weaving)
    return sorted(least.values())


def odd_texts(seed, many):
    numbers = Numbers(seed)
    return list(TEXTS) + [odd_hall_text(numbers) for _ in range(many)]


def standings_many(hall):
    """How many standings can come, by what the hall itself tells."""
    found = {standing_of(hall, ()): ()}
    queue = [()]
    for weaving in queue:
        for kind in next_kinds(hall, weaving):
            longer = weaving + ((kind, 0),)
            if standing_of(hall, longer) not in found:
                found[standing_of(hall, longer)] = longer
                queue.append(longer)
    return len(found)


def longest_counted(plain, most):
    """How long weavings can be that there are not more than most of them."""
    many = 0
    while many < 6 and 0 < len(plain.kinds_of(many + 1)) <= most:
        many += 1
    return many


class CountsTest(unittest.TestCase):
    def test_beside_counting_one_by_one(self):
        for text in odd_texts(71, 120):
            hall, plain = Hall(text), Plain(text)
            for many in range(longest_counted(plain, 300) + 1):
                check_exact(self, weaving_count(hall, many), len(plain.kinds_of(many)))
                check_exact(self, story_count(hall, many), len(stories_of(plain, many)))

    def test_the_weavings_of_all_stories_together(self):
        for text in odd_texts(72, 40):
            hall, plain = Hall(text), Plain(text)
            for many in range(longest_counted(plain, 200) + 1):
                stories = [nth_story(hall, many, number) for number in range(story_count(hall, many))]
                self.assertEqual(sum(weavings_of(hall, story) for story in stories), weaving_count(hall, many))

    def test_no_meetings(self):
        for text in TEXTS:
            hall = Hall(text)
            check_exact(self, [story_count(hall, 0), weaving_count(hall, 0)], [1, 1])
            check_exact(self, nth_story(hall, 0, 0), ())
            check_exact(self, [story_number(hall, ()), weavings_of(hall, ())], [0, 1])
            check_error(self, "BadNumber", 1, nth_story, hall, 0, 1)

    def test_where_nothing_can_be(self):
        hall = Hall(LONE)
        check_exact(self, [story_count(hall, many) for many in (0, 1, 60)], [1, 0, 0])
        check_exact(self, [weaving_count(hall, many) for many in (0, 1, 60)], [1, 0, 0])
        check_error(self, "BadNumber", 0, nth_story, hall, 1, 0)
        check_error(self, "BadNumber", 0, nth_story, hall, 60, 0)

    def test_where_an_end_comes(self):
        hall = Hall("hands a b c\ntaken a b c\nmeet x a b ends b\nmeet y c b ends c\nmeet z a c ends c")
        for many in range(6):
            plain = Plain(hall.text)
            check_exact(self, story_count(hall, many), len(stories_of(plain, many)))
            check_exact(self, weaving_count(hall, many), len(plain.kinds_of(many)))
        check_exact(self, [story_count(hall, 60), weaving_count(hall, 60)], [0, 0])

    def test_sixty_meetings(self):
        check_exact(self, weaving_count(Hall(TWO), 60), 3 ** 60)
        check_exact(self, weaving_count(Hall(EIGHT), 60), 8 ** 60)
        check_exact(self, story_count(Hall(ALONE), 60), comb(64, 4))
        check_exact(self, weaving_count(Hall(ALONE), 60), 5 ** 60)
        for text in TEXTS:
            hall = Hall(text)
            self.assertEqual(story_count(hall, 60), stories_by_sets(hall, 60))
            self.assertEqual(weaving_count(hall, 60), weavings_by_standings(hall, 60))

    def test_odd_halls_with_sixty_meetings(self):
        numbers = Numbers(73)
        for _ in range(25):
            hall = Hall(odd_hall_text(numbers, hands=5, kinds=8))
            if standings_many(hall) <= 30:
                self.assertEqual(story_count(hall, 60), stories_by_sets(hall, 60))
                self.assertEqual(weaving_count(hall, 60), weavings_by_standings(hall, 60))

    def test_wrong_many(self):
        for text in TEXTS + (ONE_MORE_STANDING, ENDLESS):
            for value in NO_MANY:
                for call in (story_count, weaving_count, lambda hall, many: nth_story(hall, many, 0),
                             lambda hall, many: nth_story(hall, many, None)):
                    check_error(self, "BadNumber", value, call, Hall(text), value)


def machine_of(hall):
    """For each standing that can come what can be there, as plainly told by the hall; and the kinds' strangers."""
    plain = Plain(hall.text)
    states = {}
    queue = [plain.start()]
    for state in queue:
        told = plain.standing(state)
        if told not in states:
            states[told] = {kind: plain.behind(state, kind) for kind in plain.next_kinds(state)}
            queue.extend(states[told].values())
    names = {told: {kind: plain.standing(state) for kind, state in steps.items()} for told, steps in states.items()}
    return plain, names, plain.standing(plain.start())


def stories_by_sets(hall, many):
    """By the sum over all sets of strangers that can be, with signs."""
    plain, steps, first = machine_of(hall)
    sets = {}
    for standing in steps:
        sets[standing] = []
        queue = [((), standing)]
        for kinds, behind in queue:
            for kind in steps[standing]:
                if all(other < kind and plain.strangers(other, kind) for other in kinds):
                    queue.append((kinds + (kind,), steps[behind][kind]))
        sets[standing] = [(len(kinds), behind) for kinds, behind in queue if kinds]
    counts = [{standing: 1 for standing in steps}]
    for length in range(1, many + 1):
        counts.append({standing: sum((-1) ** (size + 1) * counts[length - size][behind]
                                     for size, behind in sets[standing] if size <= length) for standing in steps})
    return counts[many][first]


def weavings_by_standings(hall, many):
    _, steps, first = machine_of(hall)
    counts = {standing: 1 for standing in steps}
    for _ in range(many):
        counts = {standing: sum(counts[behind] for behind in steps[standing].values()) for standing in steps}
    return counts[first]


class TooManyStandingsTest(unittest.TestCase):
    def test_thirty_standings_are_not_too_many(self):
        hall = Hall(THIRTY_STANDINGS)
        self.assertEqual(standings_many(hall), 30)
        check_exact(self, [story_count(hall, 1), weaving_count(hall, 1)], [5, 5])
        self.assertEqual(story_number(hall, nth_story(hall, 3, 5)), 5)

    def test_more_than_thirty(self):
        hall = Hall(ONE_MORE_STANDING)
        self.assertEqual(standings_many(hall), 31)
        for many in (0, 1, 60):
            check_error(self, "TooMany", 30, story_count, hall, many)
            check_error(self, "TooMany", 30, weaving_count, hall, many)
            for number in (0, -1, None, GREAT):
                check_error(self, "TooMany", 30, nth_story, hall, many, number)
        check_error(self, "TooMany", 30, story_number, hall, ())
        check_error(self, "TooMany", 30, story_number, hall, bare((0,)))

    def test_halls_with_about_thirty_standings(self):
        numbers = Numbers(74)
        found = set()
        for _ in range(400):
            hall = Hall(with_another_kind(numbers, numbers.one_of((THIRTY_STANDINGS, ONE_MORE_STANDING, ENDLESS))))
            many = len(machine_of(hall)[1])
            told = error_of(story_count, hall, 2)
            self.assertEqual(told, ("TooMany", 30) if many > 30 else None)
            self.assertEqual(error_of(weaving_count, hall, 2), told)
            self.assertEqual(error_of(nth_story, hall, 1, 0), told)
            self.assertEqual(error_of(story_number, hall, ()), told)
            found.add(many)
        self.assertTrue({29, 30, 31, 32} <= found, sorted(found))

    def test_where_it_is_not_named(self):
        hall = Hall(ONE_MORE_STANDING)
        check_exact(self, weavings_of(hall, bare((0,))), 1)
        check_error(self, "NotStill", 0, stranger_sets, hall)


def with_another_kind(numbers, text):
    """The text with some other line in the place of one of its kinds."""
    lines = text.split("\n")
    at = numbers.below(8) + 3
    comers = numbers.some_of("abcde", numbers.one_of((1, 2, 2, 2, 3)))
    others = [hand for hand in "abcde" if hand not in comers]
    lines[at] = lines[at][:len("meet p ")] + " ".join(comers)
    if numbers.below(2):
        lines[at] += " begins " + others.pop(numbers.below(len(others)))
    if len(comers) > 1 and numbers.below(2):
        lines[at] += " ends " + numbers.one_of(comers)
    if others and numbers.below(3) == 0:
        lines[at] += " gives " + numbers.one_of(others)
    return "\n".join(lines)


class StrangerSetsTest(unittest.TestCase):
    def test_sets_by_trying_all(self):
        numbers = Numbers(75)
        texts = list(STILL_TEXTS) + [still_text(odd_hall_text(numbers)) for _ in range(150)]
        for text in texts:
            check_exact(self, stranger_sets(Hall(text)), plain_sets(Plain(text)))

    def test_some_halls(self):
        for text, told in ((ALONE, (1, 5, 10, 10, 5, 1)), (TWO, (1, 3, 1)), (LONE, (1,)), (AWAY, (1, 3, 1)),
                           (CHAIN, (1, 3, 1)), (THREE, (1, 4, 4, 1)), (ROW, (1, 3, 1))):
            check_exact(self, stranger_sets(Hall(text)), told)

    def test_comers_that_are_away(self):
        hall = Hall("hands a b c\ntaken a b\nright c a\nmeet x a\nmeet y b\nmeet z c\nmeet u a c\nmeet v b c")
        check_exact(self, stranger_sets(hall), (1, 2, 1))
        check_exact(self, stranger_series(hall, 4), (1, 2, 3, 4))

    def test_the_series_is_the_counts_of_stories(self):
        numbers = Numbers(76)
        for text in list(STILL_TEXTS) + [still_text(odd_hall_text(numbers)) for _ in range(60)]:
            hall = Hall(text)
            series = stranger_series(hall, 60)
            self.assertEqual(len(series), 60)
            for many in (0, 1, 2, 3, 17, 59):
                check_exact(self, series[many], story_count(hall, many))
            for many in (0, 1, 2, 5, 59):
                check_exact(self, stranger_series(hall, many), series[:many])

    def test_small_series(self):
        check_exact(self, stranger_series(Hall(ROW), 0), ())
        check_exact(self, stranger_series(Hall(LONE), 3), (1, 0, 0))
        check_exact(self, stranger_series(Hall(ALONE), 5), (1, 5, 15, 35, 70))
        check_exact(self, stranger_series(Hall(TWO), 6), (1, 3, 8, 21, 55, 144))

    def test_halls_that_are_not_still(self):
        head = "hands a b c d\ntaken a b c d\nmeet x a\nmeet y b"
        for line in ("meet z a begins b", "meet z a b ends b", "meet z a gives b"):
            check_error(self, "NotStill", 2, stranger_sets, Hall(head + "\n" + line))
            check_error(self, "NotStill", 2, stranger_series, Hall(head + "\n" + line + "\nmeet w a gives d"), 3)
        for text, kind in ((PAIR, 0), (EXAMPLE, 1), (COMING, 0), (HEIRS, 0)):
            check_error(self, "NotStill", kind, stranger_sets, Hall(text))
            for many in (0, 5) + NO_MANY:
                check_error(self, "NotStill", kind, stranger_series, Hall(text), many)

    def test_wrong_many(self):
        for value in NO_MANY:
            check_error(self, "BadNumber", value, stranger_series, Hall(ROW), value)
        self.assertEqual(len(stranger_series(Hall(ROW), 60)), 60)


def still_text(text):
    """The text without its hands that begin, end or are given."""
    lines = []
    for line in text.split("\n"):
        for word in (" begins ", " ends ", " gives "):
            line = line.split(word)[0]
        lines.append(line)
    return "\n".join(lines)


def plain_sets(plain):
    able = [kind for kind in range(len(plain.kinds)) if set(plain.kinds[kind][0]) <= plain.here]
    many = [0] * 9
    for number in range(2 ** len(able)):
        kinds = [kind for place, kind in enumerate(able) if number >> place & 1]
        if all(plain.strangers(one, other) for one in kinds for other in kinds if one != other):
            many[len(kinds)] += 1
    return tuple(size for size in many if size)


class NumbersOfStoriesTest(unittest.TestCase):
    def test_all_stories_of_few_meetings(self):
        for text in odd_texts(77, 60):
            hall, plain = Hall(text), Plain(text)
            for many in range(longest_counted(plain, 200) + 1):
                stories = stories_of(plain, many)
                for number, story in enumerate(stories):
                    check_exact(self, nth_story(hall, many, number), story)
                    check_exact(self, story_number(hall, story), number)
                for value in (len(stories), len(stories) + 1, -1, -len(stories), GREAT) + NO_INTEGERS:
                    check_error(self, "BadNumber", value, nth_story, hall, many, value)

    def test_any_weaving_and_any_loads(self):
        for text in TEXTS:
            hall, plain, numbers = Hall(text), Plain(text), Numbers(78)
            for _ in range(6):
                weaving = plain.odd_weaving(numbers, 5, 4)
                number = story_number(hall, bare(kind for kind, _ in weaving))
                check_exact(self, nth_story(hall, len(weaving), number),
                            least_weaving(hall, bare(kind for kind, _ in weaving)))
                for other in list(plain.story(weaving))[:20]:
                    check_exact(self, story_number(hall, other), number)
                    loud = tuple((kind, GREAT * (-1) ** place) for place, (kind, _) in enumerate(other))
                    check_exact(self, story_number(hall, loud), number)

    def test_loads_do_not_order_the_meetings(self):
        # Strangers are put in order by their kinds, whatever their loads are.
        check_exact(self, story_number(Hall(ALONE), ((1, -5), (0, 5))), 1)
        check_exact(self, story_number(Hall(ALONE), ((0, 5), (1, -5))), 1)

    def test_stories_of_sixty_meetings(self):
        for text in (TWO, EIGHT, ALONE, COMING, PAIR, HEIRS, THIRTY_STANDINGS):
            hall = Hall(text)
            many = story_count(hall, 60)
            for number in {0, 1, many // 3, many // 2, many - 2, many - 1}:
                story = nth_story(hall, 60, number)
                self.assertEqual(len(story), 60)
                check_exact(self, least_weaving(hall, story), story)
                check_exact(self, story_number(hall, story), number)
            self.assertLess(nth_story(hall, 60, 0), nth_story(hall, 60, 1))
            self.assertLess(nth_story(hall, 60, many // 2), nth_story(hall, 60, many // 2 + 1))
            check_error(self, "BadNumber", many, nth_story, hall, 60, many)

    def test_too_many_meetings(self):
        hall = Hall(TWO)
        self.assertIsNone(error_of(story_number, hall, bare((0,) * 60)))
        for text in (TWO, EIGHT):
            for many in (61, 62, 400):
                check_error(self, "TooMany", 60, story_number, Hall(text), bare((0,) * many))

    def test_which_error_comes_first(self):
        hall = Hall(ONE_MORE_STANDING)
        check_error(self, "BadWeaving", -1, story_number, hall, None)
        check_error(self, "BadWeaving", 0, story_number, hall, ((9, 0),) * 100)
        check_error(self, "TooMany", 30, story_number, hall, ())
        check_error(self, "TooMany", 60, story_number, Hall(ENDLESS), bare((3,) * 61))
        check_error(self, "TooMany", 30, story_number, Hall(ENDLESS), bare((3,) * 60))
        check_error(self, "BadNumber", 61, nth_story, hall, 61, None)
        check_error(self, "BadNumber", True, nth_story, hall, True, -1)
        check_error(self, "TooMany", 30, nth_story, hall, 2, True)
        check_error(self, "BadNumber", None, nth_story, Hall(TWO), None, None)
        check_error(self, "BadNumber", None, nth_story, Hall(TWO), 3, None)


class WeavingsOfTest(unittest.TestCase):
    def test_beside_counting_one_by_one(self):
        numbers = Numbers(79)
        for text in odd_texts(80, 150):
            hall, plain = Hall(text), Plain(text)
            weaving = plain.odd_weaving(numbers, 7)
            check_exact(self, weavings_of(hall, weaving), len(plain.story(weaving)))
            for other in list(plain.story(weaving))[:5]:
                check_exact(self, weavings_of(hall, other), len(plain.story(weaving)))

    def test_strangers_alone(self):
        check_exact(self, weavings_of(Hall(ALONE), bare((4, 3, 2, 1, 0))), 120)
        check_exact(self, weavings_of(Hall(ALONE), bare((0, 1, 2, 3, 4) * 5)), factorial(25) // factorial(5) ** 5)
        check_exact(self, weavings_of(Hall(TWO), bare((0,) * 400)), 1)
        check_exact(self, weavings_of(Hall(TWO), bare((2, 0, 1) * 130)), 2 ** 130)

    def test_just_so_many_cuts(self):
        hall = Hall(TWO)
        # 100 times 100 cuts; then one more behind a meeting of both.
        check_exact(self, weavings_of(hall, bare((0,) * 99 + (1,) * 99)), comb(198, 99))
        check_error(self, "TooMany", 10000, weavings_of, hall, bare((0,) * 99 + (1,) * 99 + (2,)))
        check_error(self, "TooMany", 10000, weavings_of, hall, bare((0,) * 99 + (1,) * 100))
        check_error(self, "TooMany", 10000, weavings_of, hall, bare((1,) * 200 + (0,) * 200))
        check_exact(self, weavings_of(hall, bare((0,) * 24 + (1,) * 399)), comb(423, 24))
        check_error(self, "TooMany", 10000, weavings_of, hall, bare((0,) * 25 + (1,) * 399))
        # Ten times ten times ten times ten cuts.
        check_exact(self, weavings_of(Hall(ALONE), bare((0, 1, 2, 3) * 9)), factorial(36) // factorial(9) ** 4)
        check_error(self, "TooMany", 10000, weavings_of, Hall(ALONE), bare((0, 1, 2, 3) * 9 + (0,)))
        check_error(self, "TooMany", 10000, weavings_of, Hall(ALONE), bare((0, 1, 2, 3, 4) * 80))

    def test_loads_are_not_looked_at(self):
        hall = Hall(TWO)
        check_exact(self, weavings_of(hall, ((0, 1), (0, 2), (1, GREAT), (1, GREAT))), 6)
        check_exact(self, weavings_of(hall, ((0, 0), (0, 0), (1, 0), (1, 0))), 6)

    def test_wrong_weavings_ahead_of_too_many(self):
        check_error(self, "BadWeaving", 400, weavings_of, Hall(TWO), bare((0,) * 200 + (1,) * 200) + ((3, 0),))
        check_error(self, "BadWeaving", 61, story_number, Hall(TWO), bare((0,) * 61) + (None,))

    def test_what_is_no_weaving(self):
        check_wrong_weavings(self, (weavings_of, story_number))


class ConventionsTest(unittest.TestCase):
    def test_by_names(self):
        hall = Hall(ROW)
        self.assertEqual(story_count(many=2, hall=hall), 8)
        self.assertEqual(weaving_count(many=2, hall=hall), 9)
        self.assertEqual(stranger_sets(hall=hall), (1, 3, 1))
        self.assertEqual(stranger_series(many=2, hall=hall), (1, 3))
        self.assertEqual(nth_story(number=3, many=2, hall=hall), ((1, 0), (1, 0)))
        self.assertEqual(story_number(weaving=((1, 0), (0, 0)), hall=hall), 1)
        self.assertEqual(weavings_of(weaving=((1, 0), (0, 0)), hall=hall), 2)

    def test_equal_calls_with_equal_objects(self):
        for text in (ROW, COMING):
            for many in (0, 3, 30):
                check_exact(self, story_count(Hall(text), many), story_count(Hall(text), many))
                check_exact(self, nth_story(Hall(text), many, 0), nth_story(Hall(text), many, 0))


if __name__ == "__main__":
    unittest.main()
