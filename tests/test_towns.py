"""Point 17: halls with other names, with a twin of a hand, by finer meetings."""

import unittest

from meetbooks.books import first_books, heard_value
from meetbooks.counts import nth_story, story_count, story_number, weaving_count
from meetbooks.halls import Hall
from meetbooks.pasts import news_of, view_of
from meetbooks.scales import Scale
from meetbooks.stories import is_beginning, least_weaving, same_story, story_levels
from meetbooks.towns import finer_weaving, renamed_hall, split_hand
from meetbooks.values import value_of
from meetbooks.weavings import next_kinds, standing_of
from tests.plain import (
    ALONE, AWAY, CHAIN, COMING, EIGHT, EXAMPLE, GREAT, LONE, MOVING_TEXTS, NO_INTEGERS, NO_MEETINGS, NO_TUPLES, PAIR,
    ROW, STILL_TEXTS, TEXTS, THREE, TWO, Numbers, Plain, check_error, check_exact, error_of, odd_cases, odd_hall_text)
from tests.plain_books import Play, books_along, odd_kind
from tests.plain_values import Table, fitting_text, kind_names, scale_text

RESERVED = ("hands", "taken", "right", "meet", "begins", "ends", "gives", "and", "end")
CHANGES = ("begins", "ends", "gives")


def renamed_text(text, hands, kinds):
    """The text with these names, word by word."""
    lines = text.split("\n")
    old = lines[0].split(" ")[1:]
    new = dict(zip(old, hands))
    told = ["hands " + " ".join(hands)]
    names = iter(kinds)
    for line in lines[1:]:
        words = line.split(" ")
        if words[0] == "meet":
            # A kind may have the name of a hand; behind it stand hands and words that no hand has as its name.
            rest = [word if word in CHANGES else new[word] for word in words[2:]]
            told.append(" ".join(["meet", next(names)] + rest))
        else:
            told.append(" ".join([words[0]] + [new[word] for word in words[1:]]))
    return "\n".join(told)


def odd_names(numbers, hall):
    """Names of hands and of kinds, among them such as the hall has, exchanged ones, too."""
    pool = list(hall.hands) + [kind[0] for kind in hall.kinds] + ["zebra", "abcdefgh", "i", "endx", "say", "hall"]
    pool = list(dict.fromkeys(pool))
    return tuple(numbers.some_of(pool, len(hall.hands))), tuple(numbers.some_of(pool, len(hall)))


def stills(seed, many, longest=8):
    """Still halls of all sorts, each with a weaving."""
    numbers = Numbers(seed)
    for place in range(many):
        text = STILL_TEXTS[place % len(STILL_TEXTS)] if place % 2 else still_text(numbers)
        plain = Plain(text)
        yield Hall(text), plain, plain.odd_weaving(numbers, numbers.below(longest + 1)), numbers


def still_text(numbers):
    lines = odd_hall_text(numbers).split("\n")
    for at, line in enumerate(lines):
        words = line.split(" ")
        for word in CHANGES:
            words = words[:words.index(word)] if word in words else words
        lines[at] = " ".join(words)
    return "\n".join(lines)


class RenamedTest(unittest.TestCase):
    def test_the_text(self):
        for hall, _, _, numbers in odd_cases(1701, 150, 1):
            hands, kinds = odd_names(numbers, hall)
            told = renamed_hall(hall, hands, kinds)
            self.assertIsInstance(told, Hall)
            check_exact(self, told.text, renamed_text(hall.text, hands, kinds))
            check_exact(self, told.hands, hands)
            check_exact(self, told.kinds, tuple((name, *kind[1:]) for name, kind in zip(kinds, hall.kinds)))
            self.assertTrue(renamed_hall(told, hall.hands, tuple(kind[0] for kind in hall.kinds)) == hall)

    def test_the_same_and_exchanged_names(self):
        hall = Hall(EXAMPLE)
        self.assertTrue(renamed_hall(hall, ("a", "b", "c"), ("m", "n", "o", "p", "q")) == hall)
        told = renamed_hall(kinds=("n", "m", "o", "a", "q"), hands=("c", "a", "b"), hall=hall)
        check_exact(self, told.text, "hands c a b\ntaken c a\nright b c\nmeet n c a\nmeet m c begins b\n"
                                     "meet o b c ends b\nmeet a a\nmeet q c a gives b")
        check_exact(self, renamed_hall(Hall(TWO), ("x", "y"), ("y", "x", "a")).text,
                    "hands x y\ntaken x y\nmeet y x\nmeet x y\nmeet a x y")

    def test_what_is_told_by_numbers(self):
        for hall, plain, weaving, numbers in odd_cases(1702, 90, 8):
            other = renamed_hall(hall, *odd_names(numbers, hall))
            for call in (standing_of, next_kinds, story_levels, least_weaving):
                check_exact(self, call(other, weaving), call(hall, weaving))
            for hand in range(len(plain.hands)):
                for call in (view_of, news_of):
                    check_exact(self, call(other, weaving, hand), call(hall, weaving, hand))
            check_exact(self, same_story(other, weaving, weaving[:-1]), same_story(hall, weaving, weaving[:-1]))
            for call, given in ((story_count, 4), (weaving_count, 4)):
                self.assertEqual(self.told(call, other, given), self.told(call, hall, given))
            self.assertEqual(self.told(story_number, other, weaving), self.told(story_number, hall, weaving))
            self.assertEqual(self.told(nth_story, other, 2, 0), self.told(nth_story, hall, 2, 0))

    def told(self, call, *given):
        return error_of(call, *given) or call(*given)

    def test_values_and_books(self):
        for hall, plain, weaving, numbers in odd_cases(1703, 60, 8):
            other = renamed_hall(hall, *odd_names(numbers, hall))
            for word in ("sums", "states", "waits", "sets", "both"):
                text = fitting_text(numbers, hall.text, word)
                lines = text.split("\n")
                renamed = self.scale_renamed(lines, kind_names(hall.text), [kind[0] for kind in other.kinds])
                one, its = Scale(hall, text), Scale(other, renamed)
                check_exact(self, value_of(its, weaving), value_of(one, weaving))
                check_exact(self, books_along(its, weaving), books_along(one, weaving))

    def scale_renamed(self, lines, old, new):
        """Each row of len(old) lines behind a first line has the kinds' names ahead."""
        told, at = [], len(old)
        for line in lines:
            words = line.split(" ")
            if at < len(old):
                self.assertEqual(words[0], old[at])
                words[0] = new[at]
                at += 1
            elif line not in ("and", "end", "both"):
                at = 0
            told.append(" ".join(words))
        return "\n".join(told)

    def test_wrong_names(self):
        hall = Hall(TWO)
        hands, kinds = ("a", "b"), ("x", "y", "z")
        wrong = [(), ("a",), ("a", "b", "c", "d"), ["a", "b"], ("a", ["b"]), ("p", 0), ("p", True), (None, "p"),
                 ("p", ""), ("p", "abcdefghi"), ("p", "B"), ("p", "b1"), ("p", " b"), ("p", "b "), ("p", "b\n"),
                 ("p", "p"),
                 ("p", ("b",)), (Hall(TWO), "p"), "ab"]
        wrong += [("p", word) for word in RESERVED] + list(NO_TUPLES)
        for value in wrong:
            check_error(self, "BadNames", value, renamed_hall, hall, value, kinds)
            for other in (None, (), ("x", "y", "x")):
                check_error(self, "BadNames", value, renamed_hall, hall, value, other)
            longer = value if not isinstance(value, tuple) or len(value) != 2 else ("w", *value)
            check_error(self, "BadNames", longer, renamed_hall, hall, hands, longer)
        for value in (("x", "y"), ("x", "y", "z", "w"), ("x", "y", "y"), ("x", "y", "end")):
            check_error(self, "BadNames", value, renamed_hall, hall, hands, value)
        self.assertIsNone(error_of(renamed_hall, hall, ("say", "did"), ("hall", "place", "mark")))


def split_text(text, hand, name):
    """The text with a twin of the hand with this number, word by word."""
    lines = text.split("\n")
    own = lines[0].split(" ")[1 + hand]
    told = [lines[0] + " " + name]
    for line in lines[1:]:
        words = line.split(" ")
        if words[0] == "taken" and own in words[1:]:
            line += " " + name
        elif words[0] == "right" and words[1] == own:
            told.append(line)
            told.append(f"right {name} {words[2]}")
            continue
        elif words[0] == "meet" and own in words[2:]:
            at = words.index(own, 2)
            line = " ".join(words[:at + 1] + [name] + words[at + 1:])
        told.append(line)
    # The twin is behind all others, so that its line `right` is the last one.
    rights = [line for line in told if line.startswith("right ")]
    rights.sort(key=lambda line: line.startswith(f"right {name} "))
    first = 2
    return "\n".join(told[:first] + rights + [line for line in told[first:] if not line.startswith("right ")])


def may_split(plain, hand):
    return len(plain.hands) < 5 and not any(hand in plain.lot(kind) and len(plain.lot(kind)) == 3
                                            for kind in range(len(plain.kinds)))


class SplitTest(unittest.TestCase):
    def test_the_text(self):
        many = 0
        for hall, plain, _, numbers in stills(1704, 160):
            for hand in range(len(plain.hands)):
                if may_split(plain, hand):
                    told = split_hand(hall, hand, "twin")
                    self.assertIsInstance(told, Hall)
                    check_exact(self, told.text, split_text(hall.text, hand, "twin"))
                    many += 1
        self.assertGreater(many, 150)

    def test_hands_that_are_away(self):
        check_exact(self, split_hand(Hall(AWAY), 2, "d").text,
                    "hands a b c d\ntaken a b\nright c b\nright d b\nmeet x a\nmeet y b\nmeet z c d\nmeet w a b\n"
                    "meet v b c d")
        check_exact(self, split_hand(Hall(AWAY), 1, "d").text,
                    "hands a b c d\ntaken a b d\nright c b\nmeet x a\nmeet y b d\nmeet z c\nmeet w a b d\nmeet v b d c")
        check_exact(self, split_hand(Hall(LONE), 1, "x").text, "hands a b x\ntaken a\nright b a\nright x a\nmeet x b x")
        check_exact(self, split_hand(name="zz", hand=0, hall=Hall(TWO)).text,
                    "hands a b zz\ntaken a b zz\nmeet x a zz\nmeet y b\nmeet z a zz b")

    def test_for_all_weavings(self):
        for hall, plain, weaving, numbers in stills(1705, 120):
            for hand in range(len(plain.hands)):
                if not may_split(plain, hand):
                    continue
                other = split_hand(hall, hand, "twin")
                twin = len(plain.hands)
                for call in (next_kinds, story_levels, least_weaving):
                    check_exact(self, call(other, weaving), call(hall, weaving))
                for one in range(twin):
                    check_exact(self, view_of(other, weaving, one), view_of(hall, weaving, one))
                    check_exact(self, news_of(other, weaving, one)[:twin], news_of(hall, weaving, one))
                    check_exact(self, news_of(other, weaving, one)[twin], news_of(hall, weaving, one)[hand])
                check_exact(self, view_of(other, weaving, twin), view_of(hall, weaving, hand))
                check_exact(self, news_of(other, weaving, twin), news_of(other, weaving, hand))
                further = plain.odd_weaving(numbers, 5)
                self.assertEqual(same_story(other, weaving, further) == ("same",),
                                 same_story(hall, weaving, further) == ("same",))
                self.assertEqual(is_beginning(other, further, weaving), is_beginning(hall, further, weaving))

    def test_what_the_book_of_the_twin_tells(self):
        for hall, plain, _, numbers in stills(1706, 60):
            hand = numbers.below(len(plain.hands))
            if not may_split(plain, hand) or plain.hands[hand] not in plain.here:
                continue
            other = split_hand(hall, hand, "twin")
            word = numbers.one_of(("sums", "states", "sets", "turns"))
            text = fitting_text(numbers, other.text, word)
            if error_of(first_books, Scale(hall, text)) is not None:
                continue
            play, split = Play(hall.text, text), Play(other.text, text)
            for _ in range(10):
                kind = odd_kind(play, numbers)
                if kind is None:
                    break
                play.meet(kind, 3)
                split.meet(kind, 3)
                told = heard_value(play.scale, play.books[hand])
                check_exact(self, heard_value(split.scale, split.books[hand]), told)
                check_exact(self, heard_value(split.scale, split.books[len(plain.hands)]), told)

    def test_errors_in_their_order(self):
        for hall_text in MOVING_TEXTS:
            kind = [number for number, told in enumerate(Plain(hall_text).kinds) if told[1:] != (None, None, None)][0]
            for hand, name in ((0, "twin"), (None, "twin"), (0, None), (99, "a")):
                check_error(self, "NotStill", kind, split_hand, Hall(hall_text), hand, name)
        for value in NO_INTEGERS + (-1, 5, GREAT, -GREAT):
            check_error(self, "BadHand", value, split_hand, Hall(EIGHT), value, None)
            check_error(self, "BadHand", value, split_hand, Hall(EIGHT), value, "twin")
        wrong = [value for value in NO_TUPLES if value != "ab"] + list(RESERVED)
        for value in wrong + ["a", "e", "abcdefghi", "A", "a1", " f", "f ", "", ("f",), ()]:
            check_error(self, "BadNames", value, split_hand, Hall(EIGHT), 0, value)
        check_error(self, "Full", ("a", "b", "c", "d", "e"), split_hand, Hall(EIGHT), 0, "f")
        check_error(self, "Full", ("a", "b", "c", "d", "e"), split_hand, Hall(ALONE), 4, "p")
        full = Hall("hands a b c d\ntaken a b c d\nmeet p a b\nmeet q b c d\nmeet r d a c\nmeet s d")
        for hand, kind in ((0, 2), (1, 1), (2, 1), (3, 1)):
            check_error(self, "Full", kind, split_hand, full, hand, "e")
        self.assertIsNone(error_of(split_hand, Hall("hands a b c d\ntaken a b c\nright d a\nmeet p b c d\nmeet q a b"),
                                   0, "p"))
        check_error(self, "BadNames", "d", split_hand, full, 1, "d")


def odd_finer(numbers, hall):
    """A still hall with the same hands, and a row of its kinds for each kind of hall; None if there is none."""
    for _ in range(40):
        lines = hall.text.split("\n")
        ahead = [line for line in lines if not line.startswith("meet ")]
        kinds = []
        for name in "pqrstuvw"[:1 + numbers.below(8)]:
            comers = numbers.some_of(hall.hands, 1 + numbers.below(2))
            kinds.append(f"meet {name} " + " ".join(comers))
        other = Hall("\n".join(ahead + kinds))
        able = [[one for one in range(len(other)) if set(other.lots[one]) <= set(lot)] for lot in hall.lots]
        if all(able):
            return other, tuple(tuple(numbers.one_of(some) for _ in range(1 + numbers.below(3))) for some in able)
    return None


def finer_cases(seed, many):
    for hall, plain, weaving, numbers in stills(seed, many, 7):
        told = odd_finer(numbers, hall)
        if told is not None:
            yield hall, plain, weaving, numbers, told[0], told[1]


class FinerTest(unittest.TestCase):
    def test_the_rows_in_the_places_of_meetings(self):
        for hall, plain, weaving, _, other, rows in finer_cases(1707, 120):
            told = finer_weaving(hall, other, rows, weaving)
            expected = []
            for kind, load in weaving:
                for at, one in enumerate(rows[kind]):
                    expected.append((one, 0 if at else load))
            check_exact(self, told, tuple(expected))
            Plain(other.text).state_behind(told)

    def test_stories_are_led_to_stories(self):
        many = 0
        for hall, plain, weaving, _, other, rows in finer_cases(1708, 120):
            told = finer_weaving(hall, other, rows, weaving)
            for one in list(plain.story(weaving))[:12]:
                check_exact(self, same_story(other, finer_weaving(hall, other, rows, one), told), ("same",))
                for place in range(len(one)):
                    self.assertTrue(is_beginning(other, finer_weaving(hall, other, rows, one[:place]), told))
                    many += 1
        self.assertGreater(many, 500)

    def test_finer_and_then_still_finer(self):
        many = 0
        for hall, plain, weaving, numbers, other, rows in finer_cases(1709, 120):
            further = odd_finer(numbers, other)
            if further is None:
                continue
            third, finest = further
            once = tuple(tuple(last for one in row for last in finest[one]) for row in rows)
            told = finer_weaving(other, third, finest, finer_weaving(hall, other, rows, weaving))
            check_exact(self, finer_weaving(hall, third, once, weaving), told)
            many += 1
        self.assertGreater(many, 40)

    def test_scales_of_both_halls(self):
        many = 0
        for hall, plain, weaving, numbers, other, rows in finer_cases(1710, 120):
            for word in ("states", "turns", "places", "sums"):
                text = fitting_text(numbers, other.text, word)
                if word == "sums":
                    text = scale_text(other.text, word, lambda kind: (numbers.below(9) - 4, numbers.below(3) - 1))
                table = Table(other.text, text)
                if word == "sums":
                    words = lambda kind: self.sums(table, rows[kind])
                    head = "sums"
                else:
                    words = lambda kind: table.row((one, 0) for one in rows[kind])
                    head = text.split("\n")[0]
                coarse = Scale(hall, scale_text(hall.text, head, words))
                finer = finer_weaving(hall, other, rows, weaving)
                check_exact(self, value_of(coarse, weaving), value_of(Scale(other, text), finer))
                many += 1
        self.assertGreater(many, 200)

    def sums(self, table, row):
        """A and B of a kind that is worth what its row is worth, the first one with the load."""
        nothing, one = [table.row([(row[0], load)] + [(kind, 0) for kind in row[1:]]) for load in (0, 1)]
        return nothing, one - nothing

    def test_the_same_hall_and_names(self):
        for hall_text in STILL_TEXTS:
            hall, weaving = Hall(hall_text), Plain(hall_text).odd_weaving(Numbers(1711), 400)
            rows = tuple((kind,) for kind in range(len(hall)))
            check_exact(self, finer_weaving(hall, hall, rows, weaving), weaving)
            check_exact(self, finer_weaving(weaving=(), rows=rows, other=hall, hall=hall), ())
            twice = tuple((kind,) * 400 for kind in range(len(hall)))
            self.assertEqual(len(finer_weaving(hall, hall, twice, weaving)), 400 * len(weaving))

    def test_unlike_stories_may_be_led_to_one(self):
        other = Hall("hands a b\ntaken a b\nmeet p a\nmeet q b")
        rows = ((0,), (1,), (1, 0))
        one, its = ((2, 0), (0, 0)), ((1, 0), (0, 0), (0, 0))
        self.assertNotEqual(same_story(Hall(TWO), one, its), ("same",))
        led = [finer_weaving(Hall(TWO), other, rows, each) for each in (one, its)]
        check_exact(self, same_story(other, *led), ("same",))

    def test_hands_at_first(self):
        # Who has the right to begin whom does not matter, only who is here.
        hall = Hall("hands a b c\ntaken a b\nright c a\nmeet x a b")
        other = Hall("hands a b c\ntaken a b\nright c b\nmeet y b\nmeet x a")
        check_exact(self, finer_weaving(hall, other, ((0, 1),), ((0, 4),)), ((0, 4), (1, 0)))
        for text in ("hands a b c\ntaken a b c\nmeet y b", "hands a b c\ntaken a\nright b a\nright c a\nmeet y b",
                     "hands a c b\ntaken a c\nright b a\nmeet y b", "hands a b\ntaken a b\nmeet y b",
                     "hands a b c d\ntaken a b\nright c a\nright d a\nmeet y b",
                     "hands a b d\ntaken a b\nright d a\nmeet y b"):
            names = Hall(text).hands
            check_error(self, "OtherHands", names, finer_weaving, hall, Hall(text), ((0,),), ())
            check_error(self, "OtherHands", names, finer_weaving, hall, Hall(text), None, None)

    def test_not_still_first(self):
        still = Hall(CHAIN)
        moving = Hall("hands p q\ntaken p q\nmeet x p q ends q")
        first = Hall("hands p q\ntaken p q\nmeet x p\nmeet y p q ends q")
        check_error(self, "NotStill", 0, finer_weaving, moving, first, None, None)
        check_error(self, "NotStill", 1, finer_weaving, first, moving, None, None)
        check_error(self, "NotStill", 1, finer_weaving, first, still, None, None)
        check_error(self, "NotStill", 0, finer_weaving, still, moving, None, None)

    def test_wrong_rows_then_wrong_weavings(self):
        hall, other = Hall(TWO), Hall("hands a b\ntaken a b\nmeet p a\nmeet q b\nmeet r a b")
        good = ((0,), (1,), (2, 0))
        for value in NO_TUPLES + (
                (), good[:2], (*good, (0,)), [*good], ([0], *good[1:]), ((), *good[1:]), ((0,), (1,), ()),
                ((1,), (1,), (2,)), ((0,), (0,), (2,)), ((2,), (1,), (2,)), ((0, 1), (1,), (2,)), ((0,), (1,), (3,)),
                ((0,), (1,), (-1,)),
                ((False,), (1,), (2,)), ((0,), (True,), (2,)), ((0,), (1,), (2, None)), ((0,), (1,), ("r",)),
                ((0,), (1,), ((2,),)), ((0,), (1,), 2), ((0,), (1,), None), ((0,), (1,), (GREAT,)),
                ((0,), (1,), Hall(TWO))):
            check_error(self, "BadRows", value, finer_weaving, hall, other, value, ())
            check_error(self, "BadRows", value, finer_weaving, hall, other, value, None)
        for value in NO_TUPLES:
            check_error(self, "BadWeaving", -1, finer_weaving, hall, other, good, value)
        for value in NO_MEETINGS + ((3, 0),):
            check_error(self, "BadWeaving", 1, finer_weaving, hall, other, good, ((0, 0), value))
        rows = tuple((kind,) for kind in range(5))
        check_error(self, "BadWeaving", 0, finer_weaving, Hall(AWAY), Hall(AWAY), rows, ((2, 0),))

    def test_still_halls_of_the_tests(self):
        for hall_text in TEXTS:
            hall = Hall(hall_text)
            told = error_of(finer_weaving, hall, hall, None, None)
            self.assertEqual(told[0], "BadRows" if hall.is_still else "NotStill")
        for hall_text in (PAIR, COMING, ROW, THREE):
            self.assertEqual(error_of(split_hand, Hall(hall_text), None, None)[0],
                             "BadHand" if Hall(hall_text).is_still else "NotStill")


if __name__ == "__main__":
    unittest.main()
