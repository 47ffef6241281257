"""Point 9: rights by the books, what is refused and in which order, the bounds of books."""

import unittest

from meetbooks.books import (
    book_bound, first_books, heard_standing, heard_value, known_value, later_news, meet, value_anew, value_beyond,
    value_only, whole_value)
from meetbooks.halls import Hall
from meetbooks.scales import Scale
from tests.plain import (
    COMING, EIGHT, EXAMPLE, GREAT, HEIRS, MOVING_TEXTS, NO_INTEGERS, NO_MEETINGS, NO_TUPLES, PAIR, ROW,
    THIRTY_STANDINGS, TWO, Numbers, check_error, check_exact, error_of, odd_hall_text)
from tests.plain_books import Play, leaves_in, odd_kind, parts_in
from tests.plain_values import NAMES, WORDS, fitting_text, power_sums, scale_text
from tests.test_books import PAIRS, RELAY, SOLO

CLASH = "states 2\nx 1 1\ny 0 0\nz 0 1"


class RightsTest(unittest.TestCase):
    def test_no_right_just_where_no_comer_has_it(self):
        numbers = Numbers(920)
        told = {"NoRight": 0, None: 0}
        texts = list(MOVING_TEXTS) + [RELAY] + [odd_hall_text(numbers) for _ in range(120)]
        for text in texts:
            play = Play(text, power_sums(text))
            for number in range(20):
                for kind in range(len(play.plain.kinds)):
                    comers = play.comers(kind)
                    if not set(comers) <= set(play.here()):
                        continue
                    refusal = play.plain.told_refusal(play.state, kind)
                    given = (play.scale, (kind, 5), tuple(play.books[hand] for hand in comers))
                    if refusal is None:
                        self.assertIsNone(error_of(meet, *given))
                    else:
                        self.assertEqual(refusal[0], "right")
                        check_error(self, "NoRight", refusal[1], meet, *given)
                    told[None if refusal is None else "NoRight"] += 1
                kind = odd_kind(play, numbers)
                if kind is None:
                    break
                play.meet(kind, 1 << number)
        self.assertGreater(min(told.values()), 100)

    def test_first_who_begins_then_who_is_given(self):
        hall = Hall("hands a b c d\ntaken a b\nright c b\nright d b\nmeet x a begins c gives d\nmeet y b a gives d\n"
                    "meet z b begins c gives d")
        scale = Scale(hall, "sums\nx 0 1\ny 0 1\nz 0 1")
        a, b, _, _ = first_books(scale)
        check_error(self, "NoRight", 2, meet, scale, (0, 1), (a,))
        b, a = meet(scale, (1, 1), (b, a))
        check_error(self, "NoRight", 2, meet, scale, (0, 1), (a,))
        check_error(self, "NoRight", 3, meet, scale, (2, 1), (b,))

    def test_a_right_that_was_given_away_unheard(self):
        # a gives its right to begin c to b; d, who has not heard of it, still says that a has it.
        hall = Hall("hands a b c d\ntaken a b d\nright c a\n"
                    "meet x a b gives c\nmeet y a d\nmeet z b begins c\nmeet w d")
        scale = Scale(hall, power_sums(hall.text))
        a, b, _, d = first_books(scale)
        a, b = meet(scale, (0, 1), (a, b))
        (d,) = meet(scale, (3, 2), (d,))
        check_exact(self, heard_standing(scale, d), hall.first_standing)
        b, c = meet(scale, (2, 4), (b,))
        check_error(self, "NoRight", 2, meet, scale, (2, 8), (b,))
        a, d = meet(scale, (1, 8), (a, d))
        check_exact(self, heard_standing(scale, d),
                    (("here", ()), ("here", (2,)), ("away",), ("here", ())))
        check_exact(self, heard_standing(scale, c), (("here", ()), ("here", ()), ("here", ()), ("here", ())))


class ErrorsTest(unittest.TestCase):
    def setUp(self):
        text = "hands a b c\ntaken a b c\nmeet x a b\nmeet y c\nmeet z b c"
        self.clashing = Scale(Hall(text), CLASH)
        self.play = Play(text, power_sums(text))
        for number, kind in enumerate((0, 1, 2)):
            self.play.meet(kind, 1 << number)
        self.scale = self.play.scale
        self.a, self.b, self.c = self.play.books

    def test_clashes_ahead_of_all_else(self):
        told = ("clashes", 0, 1)
        for call, given in ((first_books, ()), (meet, (None, None)), (heard_value, (None,)),
                            (known_value, (None, None)), (value_beyond, (None, None)), (value_anew, (None, None)),
                            (value_only, (None, None)),
                            (whole_value, (None,)), (later_news, (None, None, None)), (heard_standing, (None,)),
                            (book_bound, ()), (heard_value, ((),)), (meet, ((0, 0), ((), ())))):
            check_error(self, "Clashes", told, call, self.clashing, *given)

    def test_meet(self):
        for value in NO_MEETINGS + ((3, 0), [0, 0]):
            check_error(self, "BadMeeting", value, meet, self.scale, value, (self.a, self.b))
            check_error(self, "BadMeeting", value, meet, self.scale, value, None)
        for value in NO_TUPLES + ((), (self.a,), (self.a, self.b, self.c), [self.a, self.b], (self.a, None),
                                  (None, self.b), (self.a, list(self.b)), (self.a, 0), (self.a, "ab"), self.a + (0,)):
            check_error(self, "BadBooks", value, meet, self.scale, (0, 0), value)
        check_error(self, "BadBooks", (self.a, self.b), meet, self.scale, (1, 0), (self.a, self.b))
        scale = Scale(Hall(PAIR), power_sums(PAIR))
        a, b = meet(scale, (0, 1), (first_books(scale)[0],))
        check_error(self, "BadBooks", (), meet, scale, (0, 1), ())
        check_error(self, "BadBooks", (a, b), meet, scale, (0, 1), (a, b))
        check_error(self, "BadBooks", (None,), meet, scale, (0, 1), (None,))
        check_error(self, "NoRight", 1, meet, scale, (0, 1), (a,))

    def test_one_book(self):
        for value in NO_TUPLES + ([self.a], list(self.a)):
            for call, more in ((heard_value, ()), (value_beyond, (None,)), (value_beyond, ((),)),
                               (known_value, (None,)), (known_value, (0,)), (value_anew, (None,)),
                               (value_anew, (self.a,)), (value_only, (None,)), (value_only, ((),)),
                               (later_news, (None, None)), (later_news, (self.a, 0)), (heard_standing, ())):
                check_error(self, "BadBook", value, call, self.scale, value, *more)
            check_error(self, "BadBook", value, value_anew, self.scale, self.a, value)
            check_error(self, "BadBook", value, later_news, self.scale, self.a, value, None)
            check_error(self, "BadBook", value, later_news, self.scale, self.a, value, 0)

    def test_hands(self):
        for value in NO_INTEGERS + (-1, 3, 99, GREAT):
            check_error(self, "BadHand", value, known_value, self.scale, self.a, value)
            check_error(self, "BadHand", value, later_news, self.scale, self.a, self.b, value)
        for value in NO_TUPLES + ((1, 0), (0, 0), (0, 1, 1), (3,), (-1,), (0, 3), (True,), (0, True), (False, 1),
                                  (None,), ("0",), ((0,),), [0], (0, 1, 2, 3), (GREAT,)):
            check_error(self, "BadHands", value, value_beyond, self.scale, self.a, value)
        check_exact(self, value_beyond(self.scale, self.a, ()), 1)
        check_exact(self, value_beyond(self.scale, self.c, (0, 1, 2)), 0)

    def test_several_books(self):
        five = (self.a,) * 5
        check_exact(self, value_only(self.scale, self.c, five), 6)
        check_exact(self, whole_value(self.scale, five), 1)
        for value in NO_TUPLES + (five + (self.a,), (self.a, None), (None,), [self.a], (self.a, [self.b]), (0,),
                                  (self.a, "ab")):
            check_error(self, "BadBooks", value, whole_value, self.scale, value)
            check_error(self, "BadBooks", value, value_only, self.scale, self.a, value)
        check_error(self, "BadBooks", (), whole_value, self.scale, ())
        check_exact(self, value_only(self.scale, self.c, ()), 7)

    def test_by_names(self):
        scale, a, b, c = self.scale, self.a, self.b, self.c
        check_exact(self, heard_value(book=a, scale=scale), 1)
        check_exact(self, value_beyond(hands=(0,), book=b, scale=scale), 6)
        check_exact(self, known_value(hand=0, book=c, scale=scale), 1)
        check_exact(self, value_anew(other=b, one=a, scale=scale), 6)
        check_exact(self, value_only(others=(a,), book=b, scale=scale), 6)
        check_exact(self, whole_value(books=(a, b), scale=scale), 7)
        check_exact(self, later_news(hand=1, other=a, one=b, scale=scale), "one")
        check_exact(self, heard_standing(book=a, scale=scale), (("here", ()),) * 3)
        check_exact(self, book_bound(scale=scale), (40 * 8 * 2 + 40 * 27, 370))


class BoundsTest(unittest.TestCase):
    def test_the_table(self):
        for text, hands in ((TWO, 2), (EXAMPLE, 3), (ROW, 4), (EIGHT, 5)):
            n = hands
            for head, row, w, g in (
                    ("sums", (0, 0), 1, 0), ("rows 1", (0,) * 2, 2, 1), ("rows 6", (0,) * 12, 7, 6),
                    ("states 1", (0,), 2, 1), ("states 40", range(40), 41, 40), ("costs 1", (0, 0), 4, 1),
                    ("costs 40", [part for state in range(40) for part in (state, 9)], 121, 40),
                    ("turns 99", (1, 0), 3, 99), ("turns 2", (1, 0), 3, 2), ("places 6", range(6), 7, 6),
                    ("waits", (5,), 1 + n + n * n, 0), ("sets", (), 1, 0), ("sets", ("a", "b", "x"), 4, 0)):
                scale = Scale(Hall(text), scale_text(text, head, lambda kind: row))
                check_exact(self, book_bound(scale), (40 * 2 ** n * (1 + w) + 40 * n ** 3, 10 * n ** 3 + 100 + g))

    def test_names_are_counted_once(self):
        scale = Scale(Hall(TWO), "sets\nx a b\ny b c\nz x")
        check_exact(self, book_bound(scale), (40 * 4 * (1 + 5) + 320, 180))

    def test_both(self):
        text = ("both\nsets\nx a b\ny b c\nz\nand\nturns 7\nx 1 0\ny 1 0\nz 1 0\nand\n"
                "places 3\nx 0 1 2\ny 0 1 2\nz 0 1 2\nend")
        scale = Scale(Hall(TWO), text)
        check_exact(self, book_bound(scale), (40 * 4 * (1 + 1 + 4 + 3 + 4) + 320, 180 + 7))

    def check_books(self, play, names):
        parts, greatest = book_bound(play.scale)
        most = 0
        for hand in play.here():
            book = play.books[hand]
            self.assertLessEqual(parts_in(book), parts)
            heard = [meeting for number, meeting in enumerate(play.weaving) if play.views[hand] >> number & 1]
            total = sum(weight(play.table, play.table.of(meeting)) for meeting in heard)
            for leaf in leaves_in(book):
                if isinstance(leaf, str):
                    self.assertIn(leaf, names)
                elif leaf is not None and not isinstance(leaf, bool):
                    self.assertIs(type(leaf), int)
                    self.assertLessEqual(abs(leaf), greatest + total)
                    most = max(most, abs(leaf))
        return most

    def test_along_weavings(self):
        numbers = Numbers(921)
        for text in (SOLO, PAIR, EXAMPLE, COMING, HEIRS, THIRTY_STANDINGS, RELAY, PAIRS, EIGHT):
            for word in WORDS:
                scale_of = fitting_text(numbers, text, word)
                play = Play(text, scale_of)
                names = set(scale_of.replace("\n", " ").split(" ")) & set(NAMES)
                for number in range(40):
                    kind = odd_kind(play, numbers)
                    if kind is None:
                        break
                    play.meet(kind, numbers.one_of((0, 1, -1, 12, GREAT)))
                    if number % 8 == 0:
                        self.check_books(play, names)
                self.check_books(play, names)

    def test_nothing_counts_meetings(self):
        numbers = Numbers(922)
        for text, many in ((SOLO, 400), (PAIR, 400), (RELAY, 400), (PAIRS, 400), (THIRTY_STANDINGS, 200)):
            for head, row in (("sums", (0, 0)), ("states 1", (0,)), ("sets", ()), ("turns 2", (1, 0)), ("waits", (0,))):
                play = Play(text, scale_text(text, head, lambda kind: row))
                sizes = set()
                silent = ()
                for number in range(many if head == "sums" else 60):
                    if number % 40 == 0:
                        silent = numbers.some_of(list(play.hands), numbers.below(3))
                    kind = odd_kind(play, numbers, silent)
                    if kind is None:
                        break
                    play.meet(kind, 0)
                    if number % 20 == 19:
                        self.assertLessEqual(self.check_books(play, set()), book_bound(play.scale)[1])
                        sizes.add(max(parts_in(play.books[hand]) for hand in play.here()))
                self.assertLessEqual(len(sizes), 1)

    def test_large_loads(self):
        play = Play(TWO, power_sums(TWO))
        for number in range(400):
            play.meet(number % 3, GREAT if number % 2 else -GREAT + number)
        self.check_books(play, set())
        check_exact(self, heard_value(play.scale, play.books[0]), play.value(play.views[0]))


def weight(table, value):
    """t of the bounds: of states, turns, places and sets nothing counts."""
    if table.word in ("states", "turns", "places", "sets"):
        return 0
    if table.word == "both":
        return sum(weight(part, mine) for part, mine in zip(table.parts, value))
    return table.magnitude(value)


if __name__ == "__main__":
    unittest.main()
