"""Point 15: cuts, wishes that could or must be met, meetings of which no two hang together."""

import itertools
import unittest

from meetbooks.cuts import could_fit, cuts_many, is_cut, must_fit, nth_cut, shows_widest, widest_meetings
from meetbooks.halls import Hall
from tests.plain import (
    ALONE, AWAY, COMING, EIGHT, EXAMPLE, GREAT, HEIRS, MOVING_TEXTS, NO_INTEGERS, NO_TUPLES, PAIR, ROW, TEXTS, THREE,
    TWO, Numbers, Plain, check_error, check_exact, check_wrong_weavings, error_of, nested, odd_cases)
from tests.plain_cuts import (
    fits, is_widest, passed, plain_could, plain_cuts, plain_must, plain_widest)

EASY = ((0,), (0,))


def alone(*many):
    """A weaving of the hall of ALONE with so many meetings of each hand; it has the product of one more of each."""
    return tuple((kind, 0) for kind, times in enumerate(many) for _ in range(times))


# Of the hall of ALONE: just 10000 cuts, and some more; of TWO: just 10000 and one more.
JUST = alone(9, 9, 9, 9)
MORE = alone(9, 9, 9, 10)
JUST_TWO = ((0, 0),) * 99 + ((1, 0),) * 99
ONE_MORE = JUST_TWO + ((2, 0),)


def odd_wishes(numbers, plain, weaving):
    """Wishes of all sorts, with numbers that no cut has among them."""
    wishes = []
    for row in plain.rows(weaving):
        many = [number for number in range(len(row) + 3) if numbers.below(3)]
        if numbers.below(4) == 0:
            many = [number for number in many if number not in (0, len(row))]
        wishes.append(tuple(many) or (numbers.below(len(row) + 2),))
    return tuple(wishes)


class CutsTest(unittest.TestCase):
    def test_beside_all_tuples(self):
        for hall, plain, weaving, _ in odd_cases(1501, 220, 9):
            cuts = plain_cuts(plain, weaving)
            check_exact(self, cuts_many(hall, weaving), len(cuts))
            check_exact(self, [nth_cut(hall, weaving, number) for number in range(len(cuts))], cuts)
            rows = plain.rows(weaving)
            for value in itertools.product(*[range(-1, len(row) + 2) for row in rows]):
                if len(weaving) < 5:
                    check_exact(self, is_cut(hall, weaving, value), value in cuts)
            for cut in cuts:
                check_exact(self, is_cut(hall, weaving, cut), True)

    def test_cuts_of_all_weavings_of_one_story(self):
        for hall, plain, weaving, _ in odd_cases(1502, 80, 6):
            cuts = [nth_cut(hall, weaving, number) for number in range(cuts_many(hall, weaving))]
            seen = set()
            for other in plain.story(weaving):
                self.assertEqual([nth_cut(hall, other, number) for number in range(cuts_many(hall, other))], cuts)
                seen |= set(passed(plain, other))
            self.assertEqual(seen, set(cuts))

    def test_least_and_greatest_of_two_cuts(self):
        for hall, plain, weaving, _ in odd_cases(1503, 60, 7):
            cuts = plain_cuts(plain, weaving)
            for one, other in itertools.combinations(cuts, 2):
                self.assertTrue(is_cut(hall, weaving, tuple(map(min, one, other))))
                self.assertTrue(is_cut(hall, weaving, tuple(map(max, one, other))))

    def test_any_value(self):
        hall, weaving = Hall(TWO), ((0, 0), (1, 0), (2, 0), (0, 0))
        self.assertTrue(is_cut(hall, weaving, (2, 2)) and is_cut(hall, weaving, (0, 1)))
        for value in NO_TUPLES + ((), (0,), (0, 0, 0), (1, 2), (2, 1), (4, 2), (3, 3), (-1, 0), (0, -1), (True, 1),
                                  (0, False), (None, 0), ("0", 0), ((0,), 0), [0, 0], ((0, 0),), (GREAT, 0),
                                  (0, -GREAT), (Hall(TWO), 0), nested(60, lambda value: (value, 0))):
            check_exact(self, is_cut(hall, weaving, value), False)
        check_exact(self, is_cut(value=(1, 1), weaving=weaving, hall=hall), True)

    def test_no_meetings(self):
        for hall_text in TEXTS:
            hall, none = Hall(hall_text), (0,) * len(Plain(hall_text).hands)
            check_exact(self, [cuts_many(hall, ()), nth_cut(hall, (), 0), is_cut(hall, (), none)], [1, none, True])
            check_exact(self, could_fit(hall, (), tuple((0, 3) for _ in none)), ("could", none, none))
            check_exact(self, could_fit(hall, (), tuple((1,) for _ in none)), ("never",))
            check_exact(self, must_fit(hall, (), tuple((0,) for _ in none)), ("must",))
            check_exact(self, must_fit(hall, (), tuple((2,) for _ in none)), ("misses", ()))
            check_exact(self, widest_meetings(hall, ()), ((), ()))
            check_exact(self, [shows_widest(hall, (), ((), ())), shows_widest(hall, (), ((), ((),)))], [True, False])

    def test_wrong_numbers(self):
        hall, weaving = Hall(PAIR), ((0, 0), (2, 0))
        for value in NO_INTEGERS + (-1, 3, 4, GREAT, -GREAT):
            check_error(self, "BadNumber", value, nth_cut, hall, weaving, value)
        check_exact(self, nth_cut(number=2, weaving=weaving, hall=hall), (2, 2))
        check_exact(self, cuts_many(weaving=weaving, hall=hall), 3)

    def test_wrong_weavings(self):
        check_wrong_weavings(self, [
            cuts_many, lambda hall, weaving: is_cut(hall, weaving, None),
            lambda hall, weaving: nth_cut(hall, weaving, None),
            lambda hall, weaving: could_fit(hall, weaving, None), lambda hall, weaving: must_fit(hall, weaving, None),
            widest_meetings, lambda hall, weaving: shows_widest(hall, weaving, None),
            lambda hall, weaving: nth_cut(hall, weaving, 0), lambda hall, weaving: could_fit(hall, weaving, EASY)])


class TooManyTest(unittest.TestCase):
    def test_just_10000_and_more(self):
        for hall_text, just, more in ((ALONE, JUST, MORE), (TWO, JUST_TWO, ONE_MORE)):
            hall = Hall(hall_text)
            check_exact(self, cuts_many(hall, just), 10000)
            wishes = tuple((0,) for _ in hall.hands)
            check_exact(self, must_fit(hall, just, wishes), ("must",))
            self.assertIsNone(error_of(nth_cut, hall, just, 9999))
            check_error(self, "BadNumber", 10000, nth_cut, hall, just, 10000)
            self.assertIsNone(error_of(widest_meetings, hall, just))
            self.assertIsNone(error_of(shows_widest, hall, just, None))
            for call, given in ((cuts_many, ()), (nth_cut, (0,)), (nth_cut, (None,)), (nth_cut, (10 ** 9,)),
                                (must_fit, (wishes,)), (widest_meetings, ()), (shows_widest, (None,)),
                                (shows_widest, (((), ()),))):
                check_error(self, "TooMany", 10000, call, hall, more, *given)
            check_exact(self, is_cut(hall, more, (0,) * len(hall.hands)), True)
            check_error(self, "BadWishes", None, must_fit, hall, more, None)
            self.assertEqual(could_fit(hall, more, wishes)[0], "could")

    def test_whatever_the_wishes_are(self):
        never = tuple((99999,) for _ in range(5))
        check_error(self, "TooMany", 10000, must_fit, Hall(ALONE), MORE, never)
        self.assertEqual(must_fit(Hall(ALONE), JUST, never), ("misses", JUST))

    def test_four_hundred_meetings(self):
        far = alone(80, 80, 80, 80, 80)
        check_error(self, "TooMany", 10000, cuts_many, Hall(ALONE), far)
        wishes = tuple(tuple(range(hand, 200, 7)) for hand in range(5))
        check_exact(self, could_fit(Hall(ALONE), far, wishes), ("could", (0, 1, 2, 3, 4), (77, 78, 79, 80, 74)))
        together = ((2, 0),) * 400
        check_exact(self, cuts_many(Hall(TWO), together), 401)
        even, odd = tuple(range(0, 402, 2)), tuple(range(1, 402, 2))
        check_exact(self, could_fit(Hall(TWO), together, (even, odd)), ("never",))
        check_exact(self, must_fit(Hall(TWO), together, (even, odd)), ("misses", together))
        check_exact(self, could_fit(Hall(TWO), together, (even, odd + (1000,))), ("never",))
        check_exact(self, could_fit(Hall(TWO), together, (odd, tuple(range(402)))), ("could", (1, 1), (399, 399)))
        check_exact(self, widest_meetings(Hall(TWO), together), ((0,), (tuple(range(400)),)))


class CouldTest(unittest.TestCase):
    def test_beside_all_cuts(self):
        told = {"could": 0, "never": 0}
        for hall, plain, weaving, numbers in odd_cases(1504, 260, 9):
            for _ in range(6):
                wishes = odd_wishes(numbers, plain, weaving)
                answer = could_fit(hall, weaving, wishes)
                check_exact(self, answer, plain_could(plain, weaving, wishes))
                told[answer[0]] += 1
        self.assertGreater(min(told.values()), 300)

    def test_more_than_10000_cuts(self):
        # Beside wishes: of strangers each hand's numbers are told alone.
        weaving = alone(20, 20, 20, 20, 20)
        wishes = ((3, 19, 20, 21), (0, 50), (20,), (7, 8, 9), (1, 300))
        check_exact(self, could_fit(Hall(ALONE), weaving, wishes), ("could", (3, 0, 20, 7, 1), (20, 0, 20, 9, 1)))
        check_exact(self, could_fit(Hall(ALONE), weaving, ((21,), *wishes[1:])), ("never",))
        numbers = Numbers(1505)
        plain = Plain(EIGHT)
        weaving = plain.odd_weaving(numbers, 400)
        some = passed(plain, weaving)
        wishes = tuple(tuple(sorted({cut[hand] for cut in some[100:300:40]})) for hand in range(5))
        told, least, greatest = could_fit(Hall(EIGHT), weaving, wishes)
        self.assertTrue(fits(least, wishes) and fits(greatest, wishes) and told == "could")
        for cut in some[100:300:40]:
            self.assertTrue(all(low <= many <= high for low, many, high in zip(least, cut, greatest)))
        self.assertTrue(is_cut(Hall(EIGHT), weaving, least) and is_cut(Hall(EIGHT), weaving, greatest))

    def test_names_of_arguments(self):
        hall, weaving = Hall(TWO), ((0, 0), (1, 0), (2, 0), (0, 0))
        check_exact(self, could_fit(wishes=((1,), (0, 1)), weaving=weaving, hall=hall), ("could", (1, 0), (1, 1)))
        check_exact(self, must_fit(wishes=((1,), (1,)), weaving=weaving, hall=hall), ("must",))
        check_exact(self, widest_meetings(weaving=weaving, hall=hall)[0], (0, 1))
        check_exact(self, shows_widest(value=None, weaving=weaving, hall=hall), False)

    def test_wrong_wishes(self):
        hall, weaving = Hall(TWO), ((0, 0), (1, 0), (2, 0), (0, 0))
        wrong = NO_TUPLES + (
            (), ((0,),), ((0,), (0,), (0,)), ((), (0,)), ((0,), ()), ((1, 0), (0,)), ((0,), (1, 1)), ((0,), (-1,)),
            ((-1, 0), (0,)), ((True,), (0,)), ((0,), (False, 1)), ((0,), (0, True)), ((0,), None), ((0,), 0),
            ((0,), [0]), [(0,), (0,)], ((0,), ("0",)), ((0,), (None,)), ((0,), ((0,),)), ((0,), (0, 2, 1)),
            ((0,), (-GREAT,)), ((0,), (Hall(TWO),)), (Hall(TWO), (0,)), ((0,), "0"))
        for call in (could_fit, must_fit):
            for value in wrong:
                check_error(self, "BadWishes", value, call, hall, weaving, value)
            self.assertIsNone(error_of(call, hall, weaving, ((0, GREAT), (GREAT,))))


class MustTest(unittest.TestCase):
    def test_beside_all_weavings(self):
        told = {"must": 0, "misses": 0}
        for hall, plain, weaving, numbers in odd_cases(1506, 220, 7):
            for _ in range(5):
                wishes = odd_wishes(numbers, plain, weaving)
                answer = must_fit(hall, weaving, wishes)
                check_exact(self, answer, plain_must(plain, weaving, wishes))
                told[answer[0]] += 1
        self.assertGreater(min(told.values()), 150)

    def test_the_first_and_the_last_cut(self):
        for hall, plain, weaving, numbers in odd_cases(1507, 60, 8):
            rows = plain.rows(weaving)
            first = tuple((0, len(row) + 1) for row in rows)
            last = tuple((len(row),) for row in rows)
            check_exact(self, [must_fit(hall, weaving, first), must_fit(hall, weaving, last)], [("must",), ("must",)])
            check_exact(self, must_fit(hall, weaving, tuple((len(row) + 1, GREAT) for row in rows)),
                        ("misses", min(plain.story(weaving))))

    def test_the_least_as_python_sorts(self):
        # x with the load 5 and y: to pass neither (1, 0) nor (0, 0) nor the end is not possible, but y can be first.
        hall, weaving = Hall(TWO), ((0, 5), (1, -3), (2, 0), (1, 0), (0, 0))
        check_exact(self, must_fit(hall, weaving, ((1,), (0,))), ("misses", ((1, -3), (0, 5), (2, 0), (0, 0), (1, 0))))
        check_exact(self, must_fit(hall, weaving, ((1, 3), (0, 2))),
                    ("misses", ((1, -3), (0, 5), (2, 0), (1, 0), (0, 0))))
        check_exact(self, must_fit(hall, weaving, ((2,), (2,))), ("must",))

    def test_all_weavings_of_one_story(self):
        for hall, plain, weaving, numbers in odd_cases(1508, 40, 6):
            wishes = odd_wishes(numbers, plain, weaving)
            told = [must_fit(hall, weaving, wishes), could_fit(hall, weaving, wishes)]
            for other in plain.story(weaving):
                check_exact(self, [must_fit(hall, other, wishes), could_fit(hall, other, wishes)], told)


def changed(numbers, value):
    """A pair of widest_meetings with something in it changed."""
    numbers_told, rows = value
    rows = [list(row) for row in rows]
    way = numbers.below(9)
    at, other = numbers.below(len(rows)), numbers.below(len(rows))
    if way == 0 and len(rows[at]) > 1:
        rows.append(rows[at][1:])
        rows[at] = rows[at][:1]
    elif way == 1 and at != other:
        rows[at] += rows.pop(other) if other > at else []
    elif way == 2:
        rows[at], rows[other] = rows[other], rows[at]
    elif way == 3:
        rows[at].reverse()
    elif way == 4:
        rows[at].pop(numbers.below(len(rows[at])))
    elif way == 5:
        rows[at].append(rows[at][-1])
    elif way == 6:
        one, two = numbers.below(len(rows[at])), numbers.below(len(rows[other]))
        rows[at][one:], rows[other][two:] = rows[other][two:], rows[at][one:]
    elif way == 7:
        rows[at].append(max(max(row) for row in rows if row) + 1)
    else:
        numbers_told = tuple(number + numbers.below(2) for number in numbers_told)
    return numbers_told, tuple(tuple(row) for row in rows)


class WidestTest(unittest.TestCase):
    def test_by_pasts(self):
        sizes = set()
        for hall, plain, weaving, _ in odd_cases(1509, 300, 12):
            told = widest_meetings(hall, weaving)
            check_exact(self, told[0], plain_widest(plain, weaving))
            self.assertTrue(is_widest(plain, weaving, told), (hall.text, weaving, told))
            check_exact(self, shows_widest(hall, weaving, told), True)
            sizes.add(len(told[0]))
        numbers = Numbers(1513)
        for place in range(120):
            plain = Plain((THREE, ALONE, EIGHT, ROW)[place & 3])
            weaving = plain.odd_weaving(numbers, 1 + numbers.below(12))
            told = widest_meetings(Hall((THREE, ALONE, EIGHT, ROW)[place & 3]), weaving)
            self.assertTrue(is_widest(plain, weaving, told))
            sizes.add(len(told[0]))
        self.assertEqual(sizes, {0, 1, 2, 3, 4, 5})

    def test_rows_that_need_others_to_be_changed(self):
        # Rows of hands as they come are too many: a's and c's meetings are put behind those of others.
        hall = Hall("hands a b c\ntaken a b c\nmeet x a\nmeet y b\nmeet z c\nmeet u a b\nmeet v b c")
        numbers = Numbers(1510)
        for _ in range(150):
            weaving = Plain(hall.text).odd_weaving(numbers, 14)
            self.assertTrue(is_widest(Plain(hall.text), weaving, widest_meetings(hall, weaving)))

    def test_shows_widest_beside_any_pair(self):
        told = {True: 0, False: 0}
        for hall, plain, weaving, numbers in odd_cases(1511, 160, 9):
            if not weaving:
                continue
            pair = widest_meetings(hall, weaving)
            for _ in range(12):
                value = changed(numbers, pair)
                answer = shows_widest(hall, weaving, value)
                check_exact(self, answer, is_widest(plain, weaving, value))
                told[answer] += 1
        self.assertGreater(min(told.values()), 150)

    def test_any_value(self):
        hall, weaving = Hall(TWO), ((0, 0), (1, 0), (2, 0), (0, 0))
        good = ((0, 1), ((0, 2, 3), (1,)))
        for value in (good, ((0, 1), ((0,), (1, 2, 3))), ((0, 1), ((0, 3), (1, 2))), ((0, 1), ((0, 2), (1, 3)))):
            check_exact(self, shows_widest(hall, weaving, value), True)
        for value in NO_TUPLES + (
                (), (good,), ((0, 1),), (*good, ()), [*good], ([0, 1], good[1]), (good[0], list(good[1])),
                (good[0], ([0, 2, 3], (1,))), ((False, 1), good[1]), ((0, True), good[1]), ((1, 0), good[1]),
                ((0, 1), ((False, 2, 3), (1,))), ((0, 1), ((0, 2, 3), (True,))), ((0, 1), ((1,), (0, 2, 3))),
                ((0, 1), ((0, 2, 3), (1,), ())), ((0, 1), ((0,), (1,), (2, 3))), ((0, 1), ((0, 1, 2, 3),)),
                ((0, 1), ((0, 2, 3), (1, 3))), ((0, 1), ((0, 3, 2), (1,))), ((0, 1), ((0, 2), (1,))),
                ((0, 1), ((0, 2, 3), (1, 4))), ((0, 1), ((-1, 0, 2, 3), (1,))), ((0,), ((0, 1, 2, 3),)), (None, None),
                ((0, 1), ((0, 2, 3), 1)), ((0, 1), ((0, 2, 3), "1")), ((0, 1), ((0, 2, 3), (None,))), (0, 1),
                ((0, 1, 2), good[1]), ((0, 3), good[1]), ((0, 1), ((0, 2, 3), ((1,),)))):
            check_exact(self, shows_widest(hall, weaving, value), False)
        # What is as wide, but not the least.
        hall, weaving = Hall(TWO), ((0, 0), (0, 0), (1, 0))
        check_exact(self, shows_widest(hall, weaving, ((1, 2), ((0, 1), (2,)))), False)
        check_exact(self, shows_widest(hall, weaving, ((0, 2), ((0, 1), (2,)))), True)

    def test_hands_that_come_and_go(self):
        hall = Hall(COMING)  # begin a begins c, start b begins d
        weaving = ((0, 0), (3, 0), (1, 0), (6, 0))
        check_exact(self, widest_meetings(hall, weaving), ((0, 1), ((0, 2), (1, 3))))
        for hall_text in MOVING_TEXTS + (HEIRS, EXAMPLE):
            plain = Plain(hall_text)
            for many in (1, 5, 20):
                weaving = plain.odd_weaving(Numbers(1512), many)
                self.assertTrue(is_widest(plain, weaving, widest_meetings(Hall(hall_text), weaving)))

    def test_four_hundred_meetings(self):
        # Rounds of meetings that keep the cuts few.
        for hall_text, kinds in ((TWO, (0, 1, 2)), (ROW, (0, 1, 2)), (THREE, (0, 1, 2, 3)), (AWAY, (0, 1, 3)),
                                 (EIGHT, (0, 1, 5, 7, 3, 6, 5))):
            hall, plain = Hall(hall_text), Plain(hall_text)
            weaving = tuple((kinds[number % len(kinds)], number) for number in range(400))
            told = error_of(widest_meetings, hall, weaving)
            if told is not None:
                self.assertEqual(told, ("TooMany", 10000))
                continue
            pair = widest_meetings(hall, weaving)
            self.assertTrue(shows_widest(hall, weaving, pair) and is_widest(plain, weaving, pair))
        weaving = JUST_TWO + ((0, 0),)
        check_error(self, "TooMany", 10000, widest_meetings, Hall(TWO), weaving)
        pair = widest_meetings(Hall(TWO), JUST_TWO)
        check_exact(self, pair, ((0, 99), (tuple(range(99)), tuple(range(99, 198)))))


if __name__ == "__main__":
    unittest.main()
