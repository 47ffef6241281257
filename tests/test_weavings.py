"""Points 2 to 4: standings, what can be next, refusals, lots, strangers, and what is refused."""

import unittest

from meetbooks.halls import Hall
from meetbooks.weavings import are_strangers, lot_of, next_kinds, refusal, standing_of
from tests.plain import (
    AWAY, CHAIN, COMING, EIGHT, EXAMPLE, GREAT, HEIRS, LONE, NO_INTEGERS, NO_MEETINGS, NO_TUPLES, PAIR, ROW, TEXTS,
    THREE, Numbers, Plain, check_error, check_exact, error_of, nested, odd_hall_text)

FIVE = "hands a b c d e\n"


def kinds_row(*kinds):
    """A weaving of these kinds, with the load 0."""
    return tuple((kind, 0) for kind in kinds)


class StandingsTest(unittest.TestCase):
    def check_standing(self, text, kinds, standing):
        check_exact(self, standing_of(Hall(text), kinds_row(*kinds)), standing)

    def test_behind_nothing(self):
        for text in TEXTS:
            check_exact(self, standing_of(Hall(text), ()), Hall(text).first_standing)

    def test_still_halls_never_change(self):
        here = ("here", ())
        self.check_standing(ROW, (0, 1, 2, 2, 0), (here,) * 4)
        self.check_standing(AWAY, (0, 1, 3), (here, ("here", (2,)), ("away",)))

    def test_a_begun_hand_is_here_without_rights(self):
        text = FIVE + "taken a b\nright c a\nright d a\nright e b\nmeet x b a begins c\nmeet y c begins d"
        self.check_standing(text, (0,), (("here", (3,)), ("here", (4,)), ("here", ()), ("away",), ("away",)))
        self.assertEqual(refusal(Hall(text), kinds_row(0), 1), ("right", 3))

    def test_rights_move_to_the_last_comer_in_the_text(self):
        head = FIVE + "taken a b c\nright d a\nright e b\n"
        rest = (("away",), ("away",))
        for comers, owner in (("a b c", 2), ("c b a", 0), ("a c b", 1), ("b c a", 0), ("a", 0), ("b a", 0), ("a b", 1)):
            behind = [[], [4], []]
            behind[owner].append(3)
            told = tuple(("here", tuple(sorted(rights))) for rights in behind) + rest
            self.check_standing(head + f"meet x {comers} gives d", (0,), told)

    def test_a_gives_to_itself_and_keeps_the_right(self):
        text = "hands a b\ntaken a\nright b a\nmeet x a gives b"
        self.check_standing(text, (0, 0, 0), (("here", (1,)), ("away",)))

    def test_the_first_other_comer_in_the_text_is_the_heir(self):
        head = FIVE + "taken a b c e\nright d b\n"
        for line, ended, heir in (("a b c ends b", 1, 0), ("c b a ends b", 1, 2), ("b c a ends b", 1, 2),
                                  ("b a c ends b", 1, 0), ("b a ends b", 1, 0), ("a b ends a", 0, 1),
                                  ("c a b ends a", 0, 2), ("a c b ends a", 0, 2)):
            behind = [[], [3], [], None, []]
            moved = behind[ended]
            behind[ended] = None
            behind[heir] = sorted(behind[heir] + moved + [ended])
            told = tuple(("away",) if rights is None else ("here", tuple(rights)) for rights in behind)
            self.check_standing(head + "meet x " + line, (0,), told)

    def test_who_ends_hands_on_all_rights(self):
        text = FIVE + "taken a b\nright c a\nright d a\nright e b\nmeet x b a ends a"
        self.check_standing(text, (0,), (("away",), ("here", (0, 2, 3, 4)), ("away",), ("away",), ("away",)))

    def test_begins_then_gives_then_ends(self):
        head = "hands a b c d\ntaken a b\nright c a\nright d b\n"
        # The right to begin d goes to the last comer b, who ends: so it goes on to a.
        self.check_standing(head + "meet x a b begins c ends b gives d", (0,),
                            (("here", (1, 3)), ("away",), ("here", ()), ("away",)))
        # The right to begin d goes to the last comer a, who ends: so it goes on to b.
        self.check_standing(head + "meet x b a begins c ends a gives d", (0,),
                            (("away",), ("here", (0, 3)), ("here", ()), ("away",)))
        self.check_standing(head + "meet x b a begins c ends b gives d", (0,),
                            (("here", (1, 3)), ("away",), ("here", ()), ("away",)))
        self.check_standing(head + "meet x b a begins c gives d", (0,),
                            (("here", (3,)), ("here", ()), ("here", ()), ("away",)))

    def test_a_begun_hand_does_not_inherit(self):
        text = "hands a b c d\ntaken a b d\nright c b\nmeet x b d begins c ends b"
        self.check_standing(text, (0,), (("here", ()), ("away",), ("here", ()), ("here", (1,))))

    def test_hands_come_and_go_again(self):
        first = Hall(PAIR).first_standing
        self.check_standing(PAIR, (0,), (("here", ()), ("here", ())))
        self.check_standing(PAIR, (0, 2), first)
        self.check_standing(PAIR, (0, 1, 2, 0, 1, 1), (("here", ()), ("here", ())))

    def test_rights_move_on_and_on(self):
        text = ("hands a b c\ntaken a b\nright c a\nmeet p a b gives c\nmeet q b a gives c\nmeet x b begins c\n"
                "meet y a begins c\nmeet z c b ends c")
        away = ("away",)
        self.check_standing(text, (0,), (("here", ()), ("here", (2,)), away))
        self.check_standing(text, (0, 1), (("here", (2,)), ("here", ()), away))
        self.check_standing(text, (0, 0, 0), (("here", ()), ("here", (2,)), away))
        self.check_standing(text, (1, 3, 4), (("here", ()), ("here", (2,)), away))
        self.assertEqual([next_kinds(Hall(text), kinds_row(*kinds)) for kinds in ((), (0,), (0, 2), (0, 2, 4))],
                         [(0, 1, 3), (0, 1, 2), (4,), (0, 1, 2)])

    def test_loads_have_no_influence(self):
        for text in TEXTS:
            hall, plain, numbers = Hall(text), Plain(text), Numbers(5)
            for _ in range(10):
                weaving = plain.odd_weaving(numbers, 8)
                for load in (0, -1, 7, GREAT, -GREAT):
                    other = tuple((kind, load) for kind, _ in weaving)
                    check_exact(self, standing_of(hall, other), standing_of(hall, weaving))
                    check_exact(self, next_kinds(hall, other), next_kinds(hall, weaving))


class AllWeavingsTest(unittest.TestCase):
    """Everything beside a reckoning by names."""

    def check_weaving(self, hall, plain, weaving):
        state = plain.state_behind(weaving)
        check_exact(self, standing_of(hall, weaving), plain.standing(state))
        check_exact(self, next_kinds(hall, weaving), plain.next_kinds(state))
        for kind in range(len(hall)):
            check_exact(self, refusal(hall, weaving, kind), plain.told_refusal(state, kind))

    def test_short_weavings(self):
        for text in TEXTS:
            hall, plain = Hall(text), Plain(text)
            for many in range(4):
                for kinds in plain.kinds_of(many):
                    self.check_weaving(hall, plain, kinds_row(*kinds))

    def test_odd_halls(self):
        numbers = Numbers(8)
        for _ in range(400):
            text = odd_hall_text(numbers)
            hall, plain = Hall(text), Plain(text)
            for _ in range(3):
                self.check_weaving(hall, plain, plain.odd_weaving(numbers, 12))

    def test_what_cannot_be_behind_a_weaving(self):
        numbers = Numbers(9)
        for _ in range(300):
            text = odd_hall_text(numbers)
            hall, plain = Hall(text), Plain(text)
            weaving = plain.odd_weaving(numbers, 6)
            state = plain.state_behind(weaving)
            for kind in range(len(hall)):
                longer = weaving + ((kind, 3), ("x", 0))
                told = len(weaving) + (plain.told_refusal(state, kind) is None)
                for call in (standing_of, next_kinds):
                    check_error(self, "BadWeaving", told, call, hall, longer)


class RefusalTest(unittest.TestCase):
    def test_none_where_a_meeting_can_be(self):
        self.assertIsNone(refusal(Hall(EXAMPLE), (), 1))
        self.assertIsNone(refusal(Hall(LONE.replace("meet x b", "meet x a")), (), 0))

    def test_the_first_comer_that_is_away(self):
        head = FIVE + "taken a\nright b a\nright c a\nright d a\nright e a\n"
        for comers, hand in (("a b", 1), ("b a", 1), ("c b a", 2), ("a e c", 4), ("e d c", 4), ("d", 3), ("a d b", 3)):
            check_exact(self, refusal(Hall(head + "meet x " + comers), (), 0), ("away", hand))

    def test_away_comers_ahead_of_rights(self):
        head = FIVE + "taken a b\nright c a\nright d a\nright e a\n"
        check_exact(self, refusal(Hall(head + "meet x b c begins d gives e"), (), 0), ("away", 2))
        check_exact(self, refusal(Hall(head + "meet x c b begins a"), (), 0), ("away", 2))

    def test_the_right_to_begin_ahead_of_the_right_to_give(self):
        head = FIVE + "taken a b\nright c a\nright d a\nright e b\n"
        for line, told in (("b begins c gives d", ("right", 2)), ("b begins d gives c", ("right", 3)),
                           ("b begins e gives d", ("right", 3)), ("a begins c gives e", ("right", 4)),
                           ("a begins e gives c", ("right", 4)), ("b gives c", ("right", 2)),
                           ("b begins c", ("right", 2)),
                           ("a b begins c gives e", None), ("b a begins c gives e", None), ("a begins c gives d", None),
                           ("b gives e", None)):
            check_exact(self, refusal(Hall(head + "meet x " + line), (), 0), told)

    def test_hands_that_are_here_are_neither_begun_nor_given(self):
        head = "hands a b c\ntaken a b c\n"
        check_exact(self, refusal(Hall(head + "meet x a begins b"), (), 0), ("right", 1))
        check_exact(self, refusal(Hall(head + "meet x a gives c"), (), 0), ("right", 2))
        check_exact(self, refusal(Hall(head + "meet x a begins b gives c"), (), 0), ("right", 1))

    def test_behind_meetings(self):
        hall = Hall(COMING)
        check_exact(self, [refusal(hall, (), kind) for kind in range(8)],
                    [None, ("away", 2), None, None, ("away", 3), ("away", 3), ("away", 3), ("away", 3)])
        check_exact(self, [refusal(hall, kinds_row(2), kind) for kind in (0, 2, 3)], [("right", 2), None, None])
        check_exact(self, [refusal(hall, kinds_row(0, 3), kind) for kind in range(8)],
                    [("right", 2), None, ("right", 2), ("right", 3), None, ("right", 1), None, None])
        check_exact(self, [refusal(hall, kinds_row(3, 4), kind) for kind in (5, 3, 7, 4)],
                    [None, ("away", 1), ("away", 1), ("away", 1)])

    def test_heirs_in_a_hall_of_four(self):
        hall = Hall(HEIRS)
        check_exact(self, standing_of(hall, kinds_row(0)), (("here", (1, 3)), ("away",), ("here", ()), ("away",)))
        check_exact(self, [refusal(hall, kinds_row(0), kind) for kind in range(6)],
                    [("away", 1), ("away", 1), ("away", 1), ("right", 1), None, ("away", 1)])
        check_exact(self, standing_of(hall, kinds_row(2)), (("here", ()), ("here", (2, 3)), ("away",), ("away",)))


class StrangersTest(unittest.TestCase):
    def test_lots_and_strangers_of_all_kinds(self):
        numbers = Numbers(4)
        for text in list(TEXTS) + [odd_hall_text(numbers) for _ in range(150)]:
            hall, plain = Hall(text), Plain(text)
            for one in range(len(hall)):
                check_exact(self, lot_of(hall, one), tuple(plain.lot(one)))
                self.assertIs(are_strangers(hall, one, one), False)
                for other in range(len(hall)):
                    self.assertIs(are_strangers(hall, one, other), plain.strangers(one, other))

    def test_lots_hold_who_is_begun_but_not_who_is_given(self):
        hall = Hall("hands a b c d\ntaken c d\nright a c\nright b d\n"
                    "meet x d c begins a ends d gives b\nmeet y c\nmeet z b")
        check_exact(self, [lot_of(hall, kind) for kind in range(3)], [(0, 2, 3), (2,), (1,)])
        self.assertEqual([are_strangers(hall, 0, 2), are_strangers(hall, 2, 0), are_strangers(hall, 0, 1)],
                         [True, True, False])

    def test_neighbouring_strangers_exchanged(self):
        numbers = Numbers(6)
        exchanged = 0
        for place in range(1500):
            text = TEXTS[place] if place < len(TEXTS) else odd_hall_text(numbers)
            hall, plain = Hall(text), Plain(text)
            weaving = plain.odd_weaving(numbers, 10)
            for at in range(len(weaving) - 1):
                if are_strangers(hall, weaving[at][0], weaving[at + 1][0]):
                    other = weaving[:at] + (weaving[at + 1], weaving[at]) + weaving[at + 2:]
                    check_exact(self, standing_of(hall, other), standing_of(hall, weaving))
                    check_exact(self, next_kinds(hall, other), next_kinds(hall, weaving))
                    exchanged += 1
        self.assertGreater(exchanged, 500)


class WrongInputsTest(unittest.TestCase):
    CALLS = (standing_of, next_kinds, lambda hall, weaving: refusal(hall, weaving, 0),
             lambda hall, weaving: refusal(hall, weaving, None))

    def check_weaving(self, hall, number, weaving):
        for call in self.CALLS:
            check_error(self, "BadWeaving", number, call, hall, weaving)

    def test_what_is_no_tuple(self):
        for text in (ROW, EXAMPLE):
            for value in NO_TUPLES:
                self.check_weaving(Hall(text), -1, value)

    def test_what_is_no_meeting(self):
        hall = Hall(EIGHT)
        for value in NO_MEETINGS:
            self.check_weaving(hall, 0, (value,))
            self.check_weaving(hall, 2, ((0, 1), (7, 2), value))
            self.check_weaving(hall, 1, ((0, 1), value, value, None))
            self.check_weaving(hall, 1, ((0, 1), value, (0, 0)))

    def test_numbers_of_kinds_end_with_the_kinds(self):
        for text in TEXTS:
            many = len(Hall(text))
            for kind in (many, many + 1, -1, 10 ** 299):
                self.check_weaving(Hall(text), 0, ((kind, 0),))

    def test_what_cannot_be_there(self):
        hall = Hall(EXAMPLE)
        for number, kinds in ((0, (2,)), (1, (1, 1)), (1, (1, 4)), (1, (0, 2)), (3, (1, 2, 1, 1)), (1, (4, 1)),
                              (2, (3, 4, 1))):
            self.check_weaving(hall, number, kinds_row(*kinds))
            self.check_weaving(hall, number, kinds_row(*kinds) + (None,))
        self.check_weaving(Hall(LONE), 0, ((0, 0),))
        self.check_weaving(Hall(AWAY), 2, kinds_row(0, 1, 2, 4))

    def test_loads_of_any_size(self):
        hall = Hall(EXAMPLE)
        for load in (0, 1, -1, 10 ** 9, -10 ** 9, GREAT, -GREAT, 2 ** 64):
            self.assertEqual(next_kinds(hall, ((1, load), (3, -load))), (0, 2, 3))

    def test_what_is_no_kind(self):
        hall = Hall(EXAMPLE)
        deep = nested(60, lambda value: {"x": value})
        for value in NO_INTEGERS + (-1, 5, 6, 99, GREAT, -GREAT, "m", ("m",), (0, 0), deep):
            check_error(self, "BadKind", value, lot_of, hall, value)
            check_error(self, "BadKind", value, are_strangers, hall, value, 0)
            check_error(self, "BadKind", value, are_strangers, hall, 0, value)
            check_error(self, "BadKind", value, are_strangers, hall, value, "n")
            check_error(self, "BadKind", value, refusal, hall, (), value)
            check_error(self, "BadKind", value, refusal, hall, ((1, 0), (2, 0)), value)

    def test_kinds_end_with_the_hall(self):
        for text in TEXTS:
            hall = Hall(text)
            self.assertIsNone(error_of(lot_of, hall, len(hall) - 1))
            check_error(self, "BadKind", len(hall), lot_of, hall, len(hall))

    def test_the_very_value_is_told(self):
        value = [0]
        for call in (lambda: lot_of(Hall(ROW), value), lambda: refusal(Hall(ROW), (), value)):
            self.assertIs(error_of(call)[1], value)

    def test_weavings_ahead_of_kinds_and_one_ahead_of_other(self):
        hall = Hall(EXAMPLE)
        check_error(self, "BadWeaving", -1, refusal, hall, None, None)
        check_error(self, "BadWeaving", 0, refusal, hall, ((2, 0),), 99)
        check_error(self, "BadKind", 99, refusal, hall, ((1, 0),), 99)
        check_error(self, "BadKind", "one", are_strangers, hall, "one", "other")
        check_error(self, "BadKind", True, are_strangers, hall, True, -1)
        check_error(self, "BadKind", -1, are_strangers, hall, 1, -1)


class ConventionsTest(unittest.TestCase):
    def test_by_names(self):
        hall, weaving = Hall(EXAMPLE), ((1, 0),)
        self.assertEqual(standing_of(weaving=weaving, hall=hall), standing_of(hall, weaving))
        self.assertEqual(next_kinds(weaving=weaving, hall=hall), (0, 2, 3))
        self.assertEqual(refusal(kind=1, weaving=weaving, hall=hall), ("right", 2))
        self.assertEqual(lot_of(kind=1, hall=hall), (0, 2))
        self.assertIs(are_strangers(other=3, one=1, hall=hall), True)

    def test_equal_calls_with_equal_objects(self):
        for text in TEXTS:
            weaving = Plain(text).odd_weaving(Numbers(1), 9)
            for call in (standing_of, next_kinds):
                told = call(Hall(text), weaving)
                check_exact(self, call(Hall(text), tuple(list(weaving))), told)
                check_exact(self, call(Hall(text), weaving), told)

    def test_nothing_that_is_passed_in_is_changed(self):
        hall = Hall(COMING)
        before = exact_hall(hall)
        value = [(0, 0), [1]]
        error_of(standing_of, hall, value)
        error_of(refusal, hall, (), value)
        for kinds in ((0, 1, 2), (3, 4, 5)):
            standing_of(hall, kinds_row(*kinds))
            next_kinds(hall, kinds_row(*kinds))
            refusal(hall, kinds_row(*kinds), 0)
        self.assertEqual(value, [(0, 0), [1]])
        self.assertEqual(exact_hall(hall), before)

    def test_what_is_returned_is_made_of_tuples(self):
        for text in TEXTS:
            hall = Hall(text)
            for value in (standing_of(hall, ()), next_kinds(hall, ()), refusal(hall, (), 0), lot_of(hall, 0)):
                self.assertNotIn("[", repr(value))
                self.assertNotIn("True", repr(value))

    def test_long_weavings(self):
        for text in (CHAIN, THREE, PAIR, COMING, HEIRS, EIGHT):
            hall, plain, numbers = Hall(text), Plain(text), Numbers(2)
            weaving = plain.odd_weaving(numbers, 400)
            loud = tuple((kind, GREAT - load) for kind, load in weaving)
            check_exact(self, standing_of(hall, loud), plain.standing(plain.state_behind(weaving)))
            check_error(self, "BadWeaving", len(weaving), standing_of, hall, loud + ((len(hall), 0),))
            if len(weaving) == 400:
                check_error(self, "BadWeaving", 399, standing_of, hall, loud[:399] + ((0, True),))


def exact_hall(hall):
    return repr((hall.text, hall.hands, hall.kinds, hall.first_standing, hall.is_still))


if __name__ == "__main__":
    unittest.main()
