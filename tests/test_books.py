"""Point 9: what books tell alone and together, along weavings, beside the views of point 6."""

import unittest

from meetbooks.books import (
    first_books, heard_standing, heard_value, known_value, later_news, meet, value_anew, value_beyond, value_only,
    whole_value)
from meetbooks.halls import Hall
from meetbooks.pasts import view_of
from meetbooks.scales import Scale
from meetbooks.weavings import standing_of
from tests.plain import (
    ALONE, CHAIN, COMING, EIGHT, EXAMPLE, GREAT, HEIRS, PAIR, ROW, STILL_TEXTS, TEXTS, THIRTY_STANDINGS, THREE, TWO,
    Numbers, check_exact, odd_hall_text)
from tests.plain_books import Play, odd_kind, part_by_part
from tests.plain_values import WORDS, fitting_text, power_sums

PAIRS = ("hands a b c d e\ntaken a b c d e\n"
         "meet p a b\nmeet q b c\nmeet r c d\nmeet s d e\nmeet t e a\nmeet u a c")
SOLO = "hands a b\ntaken a b\nmeet x a\nmeet y b\nmeet z a b\nmeet w b a"
# Hands come and go and their names are used again for ever.
RELAY = ("hands a b c d e\ntaken a b\nright c a\nright d a\nright e b\nmeet p a begins c\nmeet q c a ends a gives d\n"
         "meet r c begins a\nmeet s a b\nmeet t b begins e\nmeet u e b ends b\n"
         "meet v e a begins b\nmeet w a b e ends e")


def lots_of(hands):
    """All ascending tuples of these hands."""
    return [tuple(hand for place, hand in enumerate(hands) if bits >> place & 1) for bits in range(1 << len(hands))]


class Looks:
    """Looks at books, beside the plain reckoning; of sums of powers of two the value is the set itself."""

    def __init__(self, case, play, is_bits):
        self.case = case
        self.play = play
        self.value = (lambda bits: bits) if is_bits else play.value

    def check(self, told, bits):
        check_exact(self.case, told, self.value(bits))

    def alone(self, book, view):
        """What one book tells, which may be an elder one by now."""
        play, scale = self.play, self.play.scale
        self.check(heard_value(scale, book), view)
        for hands in lots_of(play.hands):
            self.check(value_beyond(scale, book, hands), play.without_pasts(view, hands))
        for other in play.hands:
            self.check(known_value(scale, book, other), play.past(view, other))
        check_exact(self.case, heard_standing(scale, book), play.standing(view))

    def two(self, one, other):
        play, scale = self.play, self.play.scale
        mine, its = play.views[one], play.views[other]
        self.check(value_anew(scale, play.books[one], play.books[other]), its & ~mine)
        self.check(value_anew(scale, play.books[other], play.books[one]), mine & ~its)
        for hand in play.hands:
            check_exact(self.case, later_news(scale, play.books[one], play.books[other], hand),
                        play.later(mine, its, hand))

    def several(self, numbers):
        play, scale = self.play, self.play.scale
        here = play.here()
        for hands in lots_of(here):
            hands = numbers.some_of(hands, len(hands))
            union = 0
            for hand in hands:
                union |= play.views[hand]
            books = tuple(play.books[hand] for hand in hands)
            if hands:
                self.check(whole_value(scale, books), union)
            hand = numbers.one_of(here)
            self.check(value_only(scale, play.books[hand], books), play.views[hand] & ~union)

    def all(self, numbers, hands=None):
        for one in self.play.here() if hands is None else hands:
            self.alone(self.play.books[one], self.play.views[one])
            for other in self.play.here():
                self.two(one, other)
        self.several(numbers)


def lasting_text(numbers, hands):
    """The text of a hall in which at least thirty meetings can be."""
    while True:
        text = odd_hall_text(numbers, hands)
        play = Play(text, power_sums(text))
        state = play.state
        for _ in range(30):
            kinds = play.plain.next_kinds(state)
            if not kinds:
                break
            state = play.plain.behind(state, numbers.one_of(kinds))
        else:
            return text


class BooksTest(unittest.TestCase):
    def play(self, text, scale_text, numbers, many, is_bits, every=1):
        play = Play(text, scale_text)
        looks = Looks(self, play, is_bits)
        silent = ()
        looks.all(numbers)
        for number in range(many):
            if numbers.below(12) == 0:
                silent = numbers.some_of(list(play.hands), numbers.below(len(play.hands)))
            kind = odd_kind(play, numbers, silent)
            if kind is None:
                break
            load = 1 << number if is_bits else numbers.one_of((0, 1, -7, GREAT, numbers.below(99)))
            play.meet(kind, load)
            if number % every == 0:
                looks.all(numbers, [hand for hand in play.plain.lot(kind) if hand in play.here()])
        looks.all(numbers)
        return play

    def test_first_books(self):
        for text in TEXTS:
            play = Play(text, power_sums(text))
            self.assertEqual([hand for hand in play.hands if play.books[hand] is not None], play.here())
            self.assertIs(type(first_books(scale=play.scale)), tuple)
            for book in play.books:
                self.assertIn(type(book), (tuple, type(None)))
            Looks(self, play, True).all(Numbers(1))

    def test_sums_of_powers_of_two(self):
        numbers = Numbers(901)
        for text in TEXTS:
            self.play(text, power_sums(text), numbers, 40, True)
        for _ in range(60):
            text = odd_hall_text(numbers)
            self.play(text, power_sums(text), numbers, 25, True)

    def test_halls_in_which_much_can_be(self):
        numbers = Numbers(902)
        for hands in (2, 3, 4, 5):
            for _ in range(6):
                text = lasting_text(numbers, hands)
                self.play(text, power_sums(text), numbers, 90, True, 3)

    def test_each_first_word(self):
        numbers = Numbers(903)
        for place, text in enumerate((TWO, PAIR, ROW, EXAMPLE, COMING, HEIRS, RELAY, PAIRS)):
            for word in WORDS:
                many = 25 if place < 4 else 12
                self.play(text, fitting_text(numbers, text, word), numbers, many, False, 4)

    def test_hundreds_of_meetings_of_two_hands(self):
        numbers = Numbers(904)
        for text in (SOLO, PAIR):
            self.play(text, power_sums(text), numbers, 400, True, 9)
        for word in WORDS:
            self.play(SOLO, fitting_text(numbers, SOLO, word), numbers, 300, False, 100)

    def test_names_that_are_used_again(self):
        numbers = Numbers(905)
        for text in (RELAY, COMING, HEIRS, THIRTY_STANDINGS, EXAMPLE):
            play = self.play(text, power_sums(text), numbers, 200, True, 10)
            if text == RELAY:
                self.assertEqual(len(play.weaving), 200)

    def test_hands_that_are_silent_for_long(self):
        # e hears of all, is silent for hundreds of meetings of all others, and then meets one of them.
        for seed in range(6):
            numbers = Numbers(906 + seed)
            play = Play(PAIRS, power_sums(PAIRS))
            looks = Looks(self, play, True)
            for silent, many in (((), 12), ((4,), 120), ((3, 4), 60), ((), 2), ((0, 2), 50), ((), 9)):
                for _ in range(many):
                    play.meet(odd_kind(play, numbers, silent), 1 << len(play.weaving))
                looks.all(numbers)

    def test_a_ring_of_five_hands(self):
        play = Play(PAIRS, power_sums(PAIRS))
        looks = Looks(self, play, True)
        for number in range(60):
            play.meet(number % 5, 1 << number)
            looks.all(Numbers(number), [number % 5])

    def test_elder_books_still_tell(self):
        numbers = Numbers(907)
        for text in (PAIRS, RELAY, SOLO, COMING):
            play = Play(text, power_sums(text))
            looks = Looks(self, play, True)
            kept = []
            for number in range(40):
                kind = odd_kind(play, numbers)
                if kind is None:
                    break
                kept += [(play.books[hand], play.views[hand]) for hand in play.here()]
                play.meet(kind, 1 << number)
            for _ in range(25):
                looks.alone(*numbers.one_of(kept))
            looks.all(numbers)

    def test_views_are_those_of_point_6(self):
        numbers = Numbers(908)
        for text in TEXTS:
            play = Play(text, power_sums(text))
            hall = Hall(text)
            for number in range(15):
                kind = odd_kind(play, numbers)
                if kind is None:
                    break
                play.meet(kind, 1 << number)
            weaving = tuple(play.weaving)
            for hand in play.here():
                bits = sum(1 << number for number in view_of(hall, weaving, hand))
                check_exact(self, heard_value(play.scale, play.books[hand]), bits)
            if text in STILL_TEXTS:
                for hand in play.here():
                    check_exact(self, heard_standing(play.scale, play.books[hand]), standing_of(hall, weaving))

    def test_a_copy_made_part_by_part_tells_the_same(self):
        numbers = Numbers(909)
        for text in (PAIRS, RELAY, THREE, CHAIN):
            for word in ("sums", "sets", "both", "waits"):
                play = Play(text, fitting_text(numbers, text, word))
                looks = Looks(self, play, False)
                for number in range(20):
                    kind = odd_kind(play, numbers)
                    if kind is None:
                        break
                    play.books = [part_by_part(book) for book in play.books]
                    play.meet(kind, numbers.below(9))
                play.books = [part_by_part(book) for book in play.books]
                looks.all(numbers)


class MeetTest(unittest.TestCase):
    def test_only_the_books_of_the_lot_change(self):
        numbers = Numbers(910)
        for text in TEXTS + (PAIRS, RELAY):
            play = Play(text, power_sums(text))
            for number in range(30):
                kind = odd_kind(play, numbers)
                if kind is None:
                    break
                elder = [part_by_part(book) for book in play.books]
                kept = play.meet(kind, 1 << number)
                for hand in play.hands:
                    check_exact(self, kept[hand], elder[hand])
                    if hand not in play.plain.lot(kind):
                        check_exact(self, play.books[hand], elder[hand])

    def test_equal_books_make_equal_books(self):
        numbers = Numbers(911)
        for text in (PAIRS, RELAY, EIGHT, COMING):
            play = Play(text, fitting_text(numbers, text, "both"))
            for _ in range(30):
                kind = odd_kind(play, numbers)
                if kind is None:
                    break
                given = tuple(play.books[hand] for hand in play.comers(kind))
                load = numbers.below(100)
                once = meet(play.scale, (kind, load), given)
                again = meet(scale=play.scale, books=part_by_part(given), meeting=(kind, load))
                check_exact(self, once, again)
                play.meet(kind, load)

    def test_books_are_those_of_the_story(self):
        # Strangers can meet in either sequence: the books are the same.
        numbers = Numbers(912)
        for text in (ROW, EIGHT, ALONE, THREE, COMING):
            play = Play(text, power_sums(text))
            for number in range(9):
                kind = odd_kind(play, numbers)
                if kind is not None:
                    play.meet(kind, 1 << number)
            for other in list(play.plain.story(tuple(play.weaving)))[:15]:
                again = Play(text, power_sums(text))
                for kind, load in other:
                    again.meet(kind, load)
                check_exact(self, again.books, play.books)

    def test_the_sequence_of_the_new_books(self):
        hall = Hall("hands a b c d\ntaken b c d\nright a c\nmeet x d b c begins a ends b\nmeet y a d gives b")
        scale = Scale(hall, "sums\nx 0 1\ny 0 1")
        a, b, c, d = first_books(scale)
        self.assertIsNone(a)
        new = meet(scale, (0, 1), (d, b, c))
        self.assertEqual([type(book) for book in new], [tuple, type(None), tuple, tuple])
        told = [heard_standing(scale, book) for book in new if book is not None]
        standing = (("here", ()), ("away",), ("here", ()), ("here", (1,)))
        check_exact(self, told, [standing] * 3)
        # The book of a, which is begun, comes last; a and d then give the right to begin b to d, the last comer.
        d, a = meet(scale, (1, 2), (new[3], new[0]))[::-1]
        check_exact(self, [heard_value(scale, book) for book in (a, d, new[2])], [3, 3, 1])
        check_exact(self, [known_value(scale, a, hand) for hand in range(4)], [3, 1, 1, 3])
        check_exact(self, [value_beyond(scale, d, (1,)), value_beyond(scale, d, (0, 1))], [2, 0])

    def test_who_is_begun_again_has_heard_what_was_heard_before(self):
        hall = Hall(PAIR)
        scale = Scale(hall, "sums\ns 0 1\nt 0 1\ne 0 1")
        a, b = first_books(scale)
        self.assertIsNone(b)
        a, b = meet(scale, (0, 1), (a,))
        a, b = meet(scale, (1, 2), (a, b))
        a, gone = meet(scale, (2, 4), (a, b))
        self.assertIsNone(gone)
        a, b = meet(scale, (0, 8), (a,))
        check_exact(self, [heard_value(scale, a), heard_value(scale, b), known_value(scale, a, 1)], [15, 15, 15])


if __name__ == "__main__":
    unittest.main()
