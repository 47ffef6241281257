"""Point 3: what holds of the whole program, by all roads, for halls of all sorts."""

import unittest

from meetbooks.back import done_again, only_view, taken_back
from meetbooks.books import book_bound, heard_value, value_only, whole_value
from meetbooks.cuts import cuts_many, must_fit, nth_cut
from meetbooks.desk import Desk
from meetbooks.fair import scale_of
from meetbooks.halls import Hall
from meetbooks.journals import journal, read_journal
from meetbooks.knowing import are_alike, knows
from meetbooks.logs import logs_of, merged_logs
from meetbooks.pasts import joined_pasts, meetings_left, news_of, past_of, view_of
from meetbooks.rules import Rule, rule_lets
from meetbooks.scales import Scale
from meetbooks.speakers import Speaker, spoken_words
from meetbooks.stories import least_weaving, led_over, same_story, story_levels
from meetbooks.times import ends_of, heaviest_chain
from meetbooks.values import combined_values, empty_value, meeting_value, scale_fits, value_between, value_of
from tests.plain import COMING, EIGHT, TEXTS, Numbers, Plain, check_exact, odd_hall_text
from tests.plain_books import books_along, leaves_in, parts_in
from tests.plain_knowing import fair_rule
from tests.plain_speakers import speaker_text
from tests.plain_values import WORDS, Table, any_text, fitting_text


def drawn(seed, many, longest):
    """(scale that fits, weaving, plain hall, numbers)."""
    numbers = Numbers(seed)
    for place in range(many):
        hall_text = TEXTS[place % len(TEXTS)] if place & 1 else odd_hall_text(numbers)
        scale = Scale(Hall(hall_text), fitting_text(numbers, hall_text, WORDS[place % len(WORDS)]))
        plain = Plain(hall_text)
        yield scale, plain.odd_weaving(numbers, numbers.below(longest + 1), 9), plain, numbers


def here(plain, weaving):
    names, _ = plain.state_behind(weaving)
    return tuple(hand for hand, name in enumerate(plain.hands) if name in names)


def row_value(scale, meetings):
    """The values of meetings combined one after the other."""
    value = empty_value(scale)
    for meeting in meetings:
        value = combined_values(scale, value, meeting_value(scale, meeting))
    return value


def numbers_of(plain, weaving, cut):
    """The numbers of the meetings that are done in a cut."""
    seen = [0] * len(cut)
    found = []
    for number, (kind, _) in enumerate(weaving):
        lot = plain.lot(kind)
        if seen[lot[0]] < cut[lot[0]]:
            found.append(number)
        for hand in lot:
            seen[hand] += 1
    return tuple(found)


def met(scale, weaving):
    desk = Desk(scale)
    for kind, load in weaving:
        desk.meet(kind, load)
    return desk


class OnceTest(unittest.TestCase):
    """(a): the value of one story by all roads is one."""

    def check_roads(self, scale, weaving, plain, numbers):
        hall = scale.hall
        value = Table(hall.text, scale.text).row(weaving)
        check_exact(self, value_of(scale, weaving), value)
        check_exact(self, value_of(scale, least_weaving(hall, weaving)), value)
        check_exact(self, row_value(scale, weaving), value)
        books = books_along(scale, weaving)
        check_exact(self, whole_value(scale, tuple(books[hand] for hand in here(plain, weaving))), value)
        check_exact(self, value_of(scale, merged_logs(hall, logs_of(hall, weaving))[1]), value)
        views = tuple(tuple(weaving[at] for at in view_of(hall, weaving, hand)) for hand in range(len(hall.hands)))
        check_exact(self, value_of(scale, joined_pasts(hall, views)[1]), value)
        if weaving:
            self.check_pasts(scale, weaving, value, numbers.below(len(weaving)))
        self.check_cuts(scale, weaving, plain, value, numbers)
        desk = met(scale, weaving)
        for one in (desk, read_journal(journal(desk)), desk.copy()):
            check_exact(self, one.together(here(plain, weaving)), value)
            check_exact(self, one.books, books)

    def check_pasts(self, scale, weaving, value, number):
        hall = scale.hall
        past = past_of(hall, weaving, number)
        begun = tuple(weaving[at] for at in past)
        told, left = meetings_left(hall, weaving, begun)
        check_exact(self, told, "left")
        check_exact(self, value_of(scale, begun + left), value)
        check_exact(self, combined_values(scale, value_of(scale, begun), row_value(scale, left)), value)
        between = value_between(scale, weaving, past, tuple(range(len(weaving))))
        check_exact(self, combined_values(scale, value_of(scale, begun), between), value)
        left, gone = taken_back(hall, weaving, number)
        check_exact(self, combined_values(scale, value_of(scale, left), row_value(scale, gone)), value)
        other, skipped = done_again(hall, left, gone)
        check_exact(self, (value_of(scale, other), skipped), (value, ()))

    def check_cuts(self, scale, weaving, plain, value, numbers):
        """Along ascending cuts, one behind the other."""
        hall = scale.hall
        many = cuts_many(hall, weaving)
        some = [*range(0, many, 1 + many // 12), many - 1]
        cuts = [nth_cut(hall, weaving, number) for number in some]
        last = cuts[0]
        done = value_between(scale, weaving, (), numbers_of(plain, weaving, last))
        for cut in cuts[1:]:
            if all(low <= high for low, high in zip(last, cut)):
                inner, outer = numbers_of(plain, weaving, last), numbers_of(plain, weaving, cut)
                done = combined_values(scale, done, value_between(scale, weaving, inner, outer))
                last = cut
        check_exact(self, done, value)

    def test_all_roads(self):
        for scale, weaving, plain, numbers in drawn(1901, 280, 8):
            self.check_roads(scale, weaving, plain, numbers)

    def test_desks_that_go_to_and_fro(self):
        for scale, weaving, plain, numbers in drawn(1902, 120, 8):
            desk = Desk(scale)
            for number, (kind, load) in enumerate(weaving):
                desk.meet(kind, load)
                if numbers.below(3) == 0:
                    desk.mark("abcdefgh"[number])
                    desk.back(numbers.below(len(desk) + 1))
                    desk.to("abcdefgh"[number])
                if numbers.below(3) == 0:
                    gone = desk.take_back(numbers.below(len(desk)))
                    for one in gone:
                        desk.meet(*one)
            check_exact(self, same_story(scale.hall, desk.weaving, weaving), ("same",))
            check_exact(self, read_journal(journal(desk)).together(here(plain, weaving)), value_of(scale, weaving))

    def test_long_weavings(self):
        for scale, weaving, plain, numbers in drawn(1903, 27, 400):
            value = value_of(scale, weaving)
            desk = met(scale, weaving)
            check_exact(self, read_journal(journal(desk)).together(here(plain, weaving)), value)
            check_exact(self, value_of(scale, merged_logs(scale.hall, logs_of(scale.hall, weaving))[1]), value)

    def test_what_only_one_has_heard(self):
        # value_only of a book against all others is worth just what only_view tells.
        for scale, weaving, plain, _ in drawn(1904, 150, 9):
            books = books_along(scale, weaving)
            for hand in here(plain, weaving):
                others = tuple(books[other] for other in here(plain, weaving) if other != hand)
                mine = [weaving[number] for number in only_view(scale.hall, weaving, hand)]
                if len(others) < 6:
                    check_exact(self, value_only(scale, books[hand], others), row_value(scale, mine))


class StrangersTest(unittest.TestCase):
    """(b): weavings of one story are alike in all that is told of them."""

    def test_the_same_is_told(self):
        for scale, weaving, plain, numbers in drawn(1905, 90, 6):
            hall = scale.hall
            hands = here(plain, weaving)
            rule = Rule(hall, fair_rule(numbers, hall.text))
            speaker = Speaker(hall, speaker_text(numbers, hall.text, 1))
            waits = Scale(hall, fitting_text(numbers, hall.text, "waits"))
            wishes = tuple(tuple(range(numbers.below(3), 9)) for _ in hall.hands)

            def told(one):
                books = books_along(scale, one)
                return (value_of(scale, one), [None if book is None else heard_value(scale, book) for book in books],
                        knows(rule, one, hands), spoken_words(speaker, one), ends_of(waits, one),
                        heaviest_chain(waits, one)[0], must_fit(hall, one, wishes), cuts_many(hall, one),
                        story_levels(hall, one), are_alike(hall, one, weaving, hands), logs_of(hall, one),
                        [[None if at is None else one[at] for at in news_of(hall, one, hand)]
                         for hand in range(len(hall.hands))],
                        [same_story(hall, tuple(one[at] for at in view_of(hall, one, hand)),
                                    tuple(weaving[at] for at in view_of(hall, weaving, hand))) for hand in hands])

            first = told(weaving)
            for other in list(plain.story(weaving))[:15]:
                check_exact(self, told(other), first)


class HereAndBoundedTest(unittest.TestCase):
    """(c) and (d): books change at their own meetings alone, and do not grow."""

    def test_books_of_desks(self):
        for scale, weaving, plain, _ in drawn(1906, 90, 60):
            desk = Desk(scale)
            parts, greatest = book_bound(scale)
            table = Table(scale.hall.text, scale.text)
            sizes = 0
            for kind, load in weaving:
                before = desk.books
                desk.meet(kind, load)
                if scale.word in ("sums", "rows", "costs", "waits"):
                    sizes += table.magnitude(table.of((kind, load)))
                for hand, book in enumerate(desk.books):
                    if hand not in plain.lot(kind):
                        check_exact(self, book, before[hand])
                    if book is not None:
                        self.assertLessEqual(parts_in(book), parts)
                    if book is not None and scale.word != "both":
                        leaves = [leaf for leaf in leaves_in(book) if type(leaf) is int]
                        self.assertLessEqual(max(map(abs, leaves)), greatest + sizes)


class CommuteTest(unittest.TestCase):
    """(e): the values of all strangers commute, or two are told whose values do not."""

    def test_one_of_both(self):
        numbers = Numbers(1907)
        seen = {"fits": 0, "clashes": 0}
        for place in range(400):
            hall_text = TEXTS[place % len(TEXTS)] if place & 1 else odd_hall_text(numbers)
            hall, plain = Hall(hall_text), Plain(hall_text)
            scale = Scale(hall, any_text(numbers, hall_text, WORDS[place % len(WORDS)]))
            told = scale_fits(scale)
            seen[told[0]] += 1
            if told[0] == "fits":
                weaving = plain.odd_weaving(numbers, 6)
                values = {repr(row_value(scale, other)) for other in list(plain.story(weaving))[:30]}
                self.assertEqual(len(values), 1)
            else:
                one, other = [meeting_value(scale, (kind, 0)) for kind in told[1:]]
                self.assertTrue(plain.strangers(*told[1:]))
                self.assertNotEqual(combined_values(scale, one, other), combined_values(scale, other, one))
        self.assertGreater(min(seen.values()), 60)


class SureTest(unittest.TestCase):
    """(f): what is told to be sure is true of all that look alike; otherwise two of them are told."""

    def test_of_several_hands(self):
        numbers = Numbers(1908)
        for place in range(120):
            hall_text = TEXTS[place % len(TEXTS)] if place & 1 else odd_hall_text(numbers, 3)
            hall, plain = Hall(hall_text), Plain(hall_text)
            rule = Rule(hall, fair_rule(numbers, hall_text))
            weaving = plain.odd_weaving(numbers, numbers.below(7))
            hands = tuple(hand for hand in here(plain, weaving) if numbers.below(2)) or here(plain, weaving)[:1]
            views = tuple(tuple(weaving[at] for at in view_of(hall, weaving, hand)) for hand in hands)
            joined = joined_pasts(hall, views)[1]
            told = knows(rule, weaving, hands)
            if told[0] == "open":
                for row, is_let in zip(told[1:], (True, False)):
                    check_exact(self, are_alike(hall, joined + row, weaving, hands), ("alike",))
                    self.assertEqual(rule_lets(rule, tuple(kind for kind, _ in joined + row)), is_let)
            else:
                for other in (weaving, joined):
                    self.assertEqual(rule_lets(rule, tuple(kind for kind, _ in other)), told[1])


class ThereAndBackTest(unittest.TestCase):
    """(g): texts are read back, exchanges lead to one another, what is taken back can be done again."""

    def test_texts(self):
        for scale, weaving, plain, numbers in drawn(1909, 90, 6):
            hall = scale.hall
            rule = Rule(hall, fair_rule(numbers, hall.text))
            speaker = Speaker(hall, speaker_text(numbers, hall.text, 2))
            self.assertTrue(Hall(hall.text) == hall and Scale(hall, scale.text) == scale)
            self.assertTrue(Rule(hall, rule.text) == rule and Speaker(hall, speaker.text) == speaker)
            self.assertTrue(Scale(hall, scale_of(rule)).text == scale_of(rule))
            desk = met(scale, weaving)
            self.assertTrue(read_journal(journal(desk)) == desk)

    def test_exchanges(self):
        for scale, weaving, plain, _ in drawn(1910, 90, 7):
            other = list(weaving)
            for place in led_over(scale.hall, weaving, least_weaving(scale.hall, weaving)):
                self.assertTrue(plain.strangers(other[place][0], other[place + 1][0]))
                other[place], other[place + 1] = other[place + 1], other[place]
            check_exact(self, tuple(other), least_weaving(scale.hall, weaving))

    def test_taken_back_and_done_again(self):
        for scale, weaving, _, _ in drawn(1911, 90, 9):
            desk = met(scale, weaving)
            for number in range(len(weaving)):
                twin = desk.copy()
                gone = twin.take_back(number)
                told = done_again(scale.hall, twin.weaving, gone)
                check_exact(self, told, (twin.weaving + gone, ()))
                for kind, load in gone:
                    twin.meet(kind, load)
                check_exact(self, same_story(scale.hall, twin.weaving, weaving), ("same",))
                check_exact(self, twin.standing, desk.standing)


class LimitsTest(unittest.TestCase):
    def test_the_largest_of_each(self):
        numbers = Numbers(1912)
        for hall_text in (EIGHT, COMING):
            plain = Plain(hall_text)
            weaving = tuple((kind, (10 ** 300 - 1) * (1 - 2 * numbers.below(2)))
                            for kind, _ in plain.odd_weaving(numbers, 400))
            for word in ("sums", "waits", "rows", "both"):
                scale = Scale(Hall(hall_text), fitting_text(numbers, hall_text, word))
                desk = met(scale, weaving)
                check_exact(self, desk.together(here(plain, weaving)), value_of(scale, weaving))
                check_exact(self, read_journal(journal(desk)) == desk, True)


if __name__ == "__main__":
    unittest.main()
