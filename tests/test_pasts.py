"""Point 6: pasts, views, news, what is common, turns, joined pasts, what is left."""

import unittest

from meetbooks.halls import Hall
from meetbooks.pasts import (
    by_turns, common_past, common_to, joined_pasts, meetings_left, news_of, news_of_news, past_of, top_meetings,
    view_of)
from meetbooks.stories import is_beginning, least_weaving, same_story
from meetbooks.weavings import standing_of
from tests.plain import (
    ALONE, AWAY, CHAIN, COMING, EIGHT, EXAMPLE, GREAT, LONE, NO_INTEGERS, NO_MEETINGS, NO_TUPLES, PAIR, ROW, TEXTS,
    THREE, Numbers, Plain, check_error, check_exact, check_wrong_weavings, odd_cases)


def all_hands(hall):
    """All ascending tuples of one hand or more."""
    many = len(hall.hands)
    return [tuple(hand for hand in range(many) if number >> hand & 1) for number in range(1, 2 ** many)]


def ascending(numbers):
    return tuple(sorted(numbers))


class PastsTest(unittest.TestCase):
    def test_pasts_by_the_definition(self):
        for hall, plain, weaving, _ in odd_cases(51, 250, 12):
            pasts = plain.pasts(weaving)
            for number, past in enumerate(pasts):
                check_exact(self, past_of(hall, weaving, number), ascending(past))

    def test_views_and_news(self):
        for hall, plain, weaving, _ in odd_cases(52, 250, 12):
            pasts = plain.pasts(weaving)
            for hand in range(len(hall.hands)):
                view = plain.view(weaving, hand)
                news = plain.news(weaving, view)
                check_exact(self, view_of(hall, weaving, hand), ascending(view))
                check_exact(self, news_of(hall, weaving, hand), news)
                check_exact(self, news_of_news(hall, weaving, hand),
                            tuple(None if number is None else plain.news(weaving, pasts[number]) for number in news))

    def test_all_short_weavings(self):
        for text in (CHAIN, PAIR, EXAMPLE, AWAY, LONE):
            hall, plain = Hall(text), Plain(text)
            for many in range(5):
                for kinds in plain.kinds_of(many):
                    weaving = tuple((kind, 0) for kind in kinds)
                    for hand in range(len(hall.hands)):
                        view = plain.view(weaving, hand)
                        check_exact(self, view_of(hall, weaving, hand), ascending(view))
                        check_exact(self, news_of(hall, weaving, hand), plain.news(weaving, view))

    def test_who_is_begun_hears_and_who_ends_keeps_its_view(self):
        hall = Hall(PAIR)
        weaving = ((0, 0), (2, 0), (0, 0), (1, 0), (2, 0))
        check_exact(self, [view_of(hall, weaving[:many], 1) for many in (0, 1, 2)], [(), (0,), (0, 1)])
        check_exact(self, view_of(hall, weaving, 1), (0, 1, 2, 3, 4))
        hall = Hall("hands a b c\ntaken a b\nright c a\nmeet s a begins c\nmeet x a b\nmeet e b c ends c\nmeet y b")
        weaving = ((0, 0), (2, 0), (1, 0), (3, 0), (3, 0))
        check_exact(self, [view_of(hall, weaving, hand) for hand in range(3)], [(0, 1, 2), (0, 1, 2, 3, 4), (0, 1)])
        check_exact(self, news_of(hall, weaving, 2), (0, 1, 1))
        check_exact(self, news_of_news(hall, weaving, 0), ((2, 2, 1), (2, 2, 1), (0, 1, 1)))

    def test_hands_that_never_met(self):
        hall = Hall(AWAY)
        check_exact(self, [view_of(hall, ((0, 0),), hand) for hand in range(3)], [(0,), (), ()])
        check_exact(self, [news_of(hall, ((0, 0),), hand) for hand in range(3)],
                    [(0, None, None), (None, None, None), (None, None, None)])
        check_exact(self, news_of_news(hall, ((0, 0),), 0), ((0, None, None), None, None))
        check_exact(self, news_of_news(hall, (), 2), (None, None, None))

    def test_wrong_numbers(self):
        hall, weaving = Hall(CHAIN), ((0, 0), (1, 0))
        for value in NO_INTEGERS + (-1, 2, 3, GREAT, -GREAT):
            check_error(self, "BadNumber", value, past_of, hall, weaving, value)
            check_error(self, "BadWeaving", 1, past_of, hall, ((0, 0), None), value)
        check_error(self, "BadNumber", 0, past_of, hall, (), 0)


class CommonTest(unittest.TestCase):
    def test_common_pasts(self):
        for hall, plain, weaving, _ in odd_cases(53, 250, 12):
            for one in range(len(hall.hands)):
                for other in range(len(hall.hands)):
                    check_exact(self, common_past(hall, weaving, one, other),
                                plain_common(plain, weaving, one, other))

    def test_of_one_hand_with_itself(self):
        hall, weaving = Hall(CHAIN), ((0, 0), (2, 0), (1, 0), (0, 0), (2, 0))
        check_exact(self, common_past(hall, weaving, 0, 0), ((0, 1, 2, 3), ((3, 0, 0),)))
        check_exact(self, common_past(hall, weaving, 2, 2), ((0, 1, 2, 4), ((4, 2, 2),)))
        check_exact(self, common_past(hall, (), 1, 2), ((), ()))

    def test_several_tops(self):
        hall = Hall("hands a b c d\ntaken a b c d\nmeet x a b\nmeet y c d\nmeet u b c\nmeet v a d")
        weaving = ((0, 0), (1, 0), (2, 0), (3, 0))
        check_exact(self, common_past(hall, weaving, 0, 1), ((0, 1), ((0, 1, 0), (1, 2, 3))))
        check_exact(self, common_past(hall, weaving, 2, 3), ((0, 1), ((0, 0, 1), (1, 3, 2))))

    def test_common_to_hands(self):
        for hall, plain, weaving, _ in odd_cases(54, 200, 12):
            for hands in all_hands(hall):
                common = set.intersection(*[plain.view(weaving, hand) for hand in hands])
                check_exact(self, common_to(hall, weaving, hands), (ascending(common), plain.tops(weaving, common)))

    def test_top_meetings(self):
        for hall, plain, weaving, _ in odd_cases(55, 250, 12):
            check_exact(self, top_meetings(hall, weaving), plain.tops(weaving, set(range(len(weaving)))))
        check_exact(self, top_meetings(Hall(ALONE), ((0, 0), (1, 0), (0, 0), (4, 0))), (1, 2, 3))
        check_exact(self, top_meetings(Hall(ALONE), ()), ())

    def test_wrong_hands(self):
        hall = Hall(CHAIN)
        for value in NO_INTEGERS + (-1, 3, 4, GREAT, -GREAT):
            for call in (view_of, news_of, news_of_news, lambda *given: common_past(*given, 0),
                         lambda *given: common_past(*given, None),
                         lambda hall, weaving, hand: common_past(hall, weaving, 0, hand)):
                check_error(self, "BadHand", value, call, hall, (), value)
                check_error(self, "BadHand", value, call, hall, ((0, 0), (1, 0)), value)
                check_error(self, "BadWeaving", 0, call, hall, ((4, 0),), value)
        check_error(self, "BadHand", "one", common_past, hall, (), "one", "other")
        check_error(self, "BadHand", "other", common_past, hall, (), 2, "other")

    def test_wrong_tuples_of_hands(self):
        hall = Hall(CHAIN)
        for call in (common_to, by_turns):
            for value in NO_TUPLES + ((), (0, 0), (1, 0), (0, 2, 1), (0, 3), (3,), (-1,), (-1, 0), (0, 1, 1),
                                      (0, 1, 2, 3), (2, 1, 0), [0], [0, 1], {0: 1}, (0, GREAT), ((0, 1),)):
                check_error(self, "BadHands", value, call, hall, ((0, 0),), value)
                check_error(self, "BadWeaving", 0, call, hall, ((4, 0),), value)
            for value in NO_INTEGERS:
                check_error(self, "BadHands", (value,), call, hall, (), (value,))
                check_error(self, "BadHands", (0, value), call, hall, (), (0, value))
                check_error(self, "BadHands", (value, 2), call, hall, (), (value, 2))


def plain_common(plain, weaving, one, other):
    mine, its = plain.view(weaving, one), plain.view(weaving, other)
    my_news, its_news = plain.news(weaving, mine), plain.news(weaving, its)
    tops = [(number, my_news.index(number), its_news.index(number)) for number in plain.tops(weaving, mine & its)]
    return ascending(mine & its), tuple(tops)


class TurnsTest(unittest.TestCase):
    def test_turns_by_the_definition(self):
        for hall, plain, weaving, _ in odd_cases(56, 250, 14):
            for hands in all_hands(hall):
                check_exact(self, by_turns(hall, weaving, hands), plain_turns(plain, weaving, hands))

    def test_of_one_hand(self):
        hall, weaving = Hall(CHAIN), ((0, 0), (2, 0), (1, 0), (0, 0), (2, 0))
        check_exact(self, [by_turns(hall, weaving, (hand,)) for hand in range(3)], [((3,), 3), ((3,), 3), ((4,), 4)])
        check_exact(self, by_turns(hall, weaving[:1], (2,)), ((), None))

    def test_of_all_hands(self):
        hall = Hall("hands a b c\ntaken a b c\nmeet x a b\nmeet y b c\nmeet z c\nmeet all a b c")
        weaving = ((2, 0), (3, 0), (0, 0), (1, 0), (0, 0), (1, 0))
        check_exact(self, by_turns(hall, weaving, (0, 1, 2)), ((4, 3, 2, 1), 1))
        check_exact(self, by_turns(hall, weaving[2:], (0, 1, 2)), ((2, 1, 0), None))
        check_exact(self, by_turns(hall, weaving[:1], (0, 1, 2)), ((), None))
        check_exact(self, by_turns(hall, weaving[:1], (2,)), ((0,), 0))
        check_exact(self, by_turns(hall, (), (0, 1, 2)), ((), None))

    def test_the_row_ends(self):
        hall = Hall(THREE)
        check_exact(self, by_turns(hall, ((0, 0), (1, 0)), (0, 1)), ((0,), None))
        check_exact(self, by_turns(hall, ((2, 0), (0, 0), (1, 0)), (0, 1)), ((1, 0), 0))
        check_exact(self, by_turns(hall, ((2, 0), (0, 0), (1, 0)), (0, 1, 2)), ((1, 0), None))

    def test_where_the_number_stands_still_for_a_while(self):
        # Of the three hands the first two meet last; so the number stands still once ahead of the third one's turn.
        hall = Hall("hands a b c\ntaken a b c\nmeet x a b\nmeet y b c\nmeet all a b c")
        check_exact(self, by_turns(hall, ((2, 0), (1, 0), (0, 0)), (0, 1, 2)), ((2, 1, 0), 0))
        check_exact(self, by_turns(hall, ((2, 0), (0, 0)), (0, 1, 2)), ((1, 0), 0))

    def test_the_number_is_the_last_meeting_of_all(self):
        for hall, plain, weaving, _ in odd_cases(57, 100, 10):
            for hands in all_hands(hall):
                of_all = [number for number, (kind, _) in enumerate(weaving) if set(hands) <= set(plain.lot(kind))]
                self.assertEqual(by_turns(hall, weaving, hands)[1], of_all[-1] if of_all else None)


def plain_turns(plain, weaving, hands):
    """By going round more often than anything can change."""
    pasts = plain.pasts(weaving)
    taken = plain.news(weaving, plain.view(weaving, hands[0]))[hands[0]]
    row = [taken]
    for turn in range(1, (len(weaving) + 2) * len(hands) + 1):
        if taken is None:
            return tuple(row[:-1]), None
        taken = plain.news(weaving, pasts[taken])[hands[turn % len(hands)]]
        if taken != row[-1]:
            row.append(taken)
    return tuple(row), taken


class JoinedPastsTest(unittest.TestCase):
    def test_parts_of_one_story_are_joined(self):
        for hall, plain, weaving, numbers in odd_cases(58, 200, 6):
            story = list(plain.story(weaving))
            pasts = tuple(numbers.one_of(story)[:numbers.below(len(weaving) + 1)] for _ in range(1 + numbers.below(6)))
            word, joined = joined_pasts(hall, pasts)
            self.assertEqual(word, "joined")
            standing_of(hall, joined)
            check_exact(self, least_weaving(hall, joined), joined)
            for past in pasts:
                self.assertIs(is_beginning(hall, past, joined), True)
            self.assertIs(is_beginning(hall, joined, weaving), True)
            longest = [max((plain.row(past, hand) for past in pasts), key=len) for hand in range(len(hall.hands))]
            self.assertEqual(list(plain.rows(joined)), longest)

    def test_the_least_joint_story_of_all(self):
        for text in (CHAIN, PAIR, EXAMPLE, THREE):
            hall, plain = Hall(text), Plain(text)
            weavings = [tuple((kind, 0) for kind in row) for many in range(5) for row in plain.kinds_of(many)]
            stories = sorted({min(plain.story(weaving)) for weaving in weavings}, key=lambda one: (len(one), one))
            heads = {story: {plain.rows(other[:many]) for other in plain.story(story) for many in range(len(other) + 1)}
                     for story in stories}
            short = [story for story in stories if len(story) <= 2]
            for one in short:
                for other in short:
                    joint = [story for story in stories if {plain.rows(one), plain.rows(other)} <= heads[story]]
                    told = joined_pasts(hall, (one, other))
                    if joint:
                        check_exact(self, told, ("joined", joint[0]))
                        for story in joint:
                            self.assertIn(plain.rows(joint[0]), heads[story])
                    else:
                        check_exact(self, told, plain_parting(plain, (one, other)))

    def test_odd_pasts(self):
        for hall, plain, weaving, numbers in odd_cases(59, 300, 6):
            pasts = [weaving] + [plain.odd_weaving(numbers, 6, 2) for _ in range(numbers.below(4))]
            pasts.append(weaving[:numbers.below(6)])
            if weaving:
                at = numbers.below(len(weaving))
                pasts.append(weaving[:at] + ((weaving[at][0], 9),) + weaving[at + 1:])
            pasts = tuple(numbers.some_of(pasts, len(pasts))[:1 + numbers.below(6)])
            told = joined_pasts(hall, pasts)
            parting = plain_parting(plain, pasts)
            if parting is None:
                longest = tuple(max((plain.row(past, hand) for past in pasts), key=len)
                                for hand in range(len(hall.hands)))
                self.assertEqual((told[0], plain.rows(told[1])), ("joined", longest))
                check_exact(self, least_weaving(hall, told[1]), told[1])
            else:
                check_exact(self, told, parting)

    def test_the_first_pair_the_least_hand_the_first_place(self):
        hall = Hall(THREE)
        x, y, z, u = (0, 0), (1, 0), (2, 0), (3, 0)
        for pasts, told in (
                (((x,), (y,), (z,)), ("parts", 0, 2, 0, 0)), (((x,), (y,), (y, z)), ("parts", 0, 2, 0, 0)),
                (((u,), (x,), (x, y), (y, y), (y, z)), ("parts", 1, 4, 0, 0)),
                (((), (y, x, z), (y, y), (u,)), ("parts", 1, 2, 1, 1)),
                (((u, u), (u, (3, 1))), ("parts", 0, 1, 2, 1)), (((x, x, x), (x, x, z)), ("parts", 0, 1, 0, 2)),
                (((x, y), (x, (1, 1), u), ((0, 1),)), ("parts", 0, 1, 1, 0)),
                (((z,), (z, y), (z, x), (z, y, y, z)), ("parts", 2, 3, 0, 1)),
                (((x,), (x,), (x, x), (x, u), (y,), (z,)), ("parts", 0, 5, 0, 0))):
            check_exact(self, joined_pasts(hall, pasts), told)

    def test_one_to_six_pasts(self):
        hall = Hall(ALONE)
        pasts = tuple(((kind, kind),) for kind in (4, 2, 0, 3, 1)) + (((4, 4), (4, 0)),)
        check_exact(self, joined_pasts(hall, pasts),
                    ("joined", ((0, 0), (1, 1), (2, 2), (3, 3), (4, 4), (4, 0))))
        check_exact(self, joined_pasts(hall, pasts[:1]), ("joined", ((4, 4),)))
        check_exact(self, joined_pasts(hall, (((3, 0), (1, 0), (3, -1)),)), ("joined", ((1, 0), (3, 0), (3, -1))))
        check_exact(self, joined_pasts(hall, ((),) * 6), ("joined", ()))

    def test_what_is_no_tuple_of_pasts(self):
        hall = Hall(THREE)
        for value in NO_TUPLES + ((), ((),) * 7, (((0, 0),),) * 7, [()], [((0, 0),)], (None,) * 7):
            check_error(self, "BadPasts", -1, joined_pasts, hall, value)

    def test_the_first_part_that_is_no_weaving(self):
        hall = Hall(THREE)
        for value in NO_TUPLES:
            check_error(self, "BadPasts", 0, joined_pasts, hall, (value,))
            check_error(self, "BadPasts", 1, joined_pasts, hall, (((0, 0),), value, None))
            check_error(self, "BadPasts", 5, joined_pasts, hall, ((),) * 5 + (value,))
        for value in NO_MEETINGS:
            check_error(self, "BadPasts", 1, joined_pasts, hall, ((), ((0, 0), value), ((1, 0),)))
        check_error(self, "BadPasts", 0, joined_pasts, hall, (0, 0))
        check_error(self, "BadPasts", 0, joined_pasts, hall, ((0, 0),))
        check_error(self, "BadPasts", 2, joined_pasts, hall, (((0, 0),), ((2, 0),), ((4, 0),)))
        check_error(self, "BadPasts", 1, joined_pasts, Hall(PAIR), (((0, 0),), ((1, 0),), ((0, 0), (0, 0))))


def plain_parting(plain, pasts):
    for one in range(len(pasts)):
        for other in range(one + 1, len(pasts)):
            for hand in range(len(plain.hands)):
                mine, its = plain.row(pasts[one], hand), plain.row(pasts[other], hand)
                differ = [place for place, (low, high) in enumerate(zip(mine, its)) if low != high]
                if differ:
                    return ("parts", one, other, hand, differ[0])
    return None


class MeetingsLeftTest(unittest.TestCase):
    def test_beginnings(self):
        for hall, plain, weaving, numbers in odd_cases(60, 200, 7):
            story = list(plain.story(weaving))
            for _ in range(10):
                past = numbers.one_of(story)[:numbers.below(len(weaving) + 1)]
                word, left = meetings_left(hall, weaving, past)
                self.assertEqual(word, "left")
                self.assertEqual(len(left), len(weaving) - len(past))
                check_exact(self, same_story(hall, past + left, weaving), ("same",))
                check_exact(self, left, plain_left(plain, weaving, past))

    def test_other_pasts(self):
        for hall, plain, weaving, numbers in odd_cases(61, 300, 7):
            others = [plain.odd_weaving(numbers, 7, 2) for _ in range(3)] + [weaving + weaving[:1], weaving]
            if weaving:
                at = numbers.below(len(weaving))
                others.append(weaving[:at] + ((weaving[at][0], 9),) + weaving[at + 1:])
            for past in others:
                if plain_is_weaving(plain, past):
                    told = plain_parts_left(plain, weaving, past)
                    check_exact(self, meetings_left(hall, weaving, past),
                                told or ("left", plain_left(plain, weaving, past)))

    def test_the_place_where_the_row_ends(self):
        hall = Hall(THREE)
        x, y, z, u = (0, 0), (1, 0), (2, 0), (3, 0)
        for weaving, past, told in (
                ((), (x,), ("parts", 0, 0)), ((x,), (x, x), ("parts", 0, 1)),
                ((x, u, u), (x, u, u, u), ("parts", 2, 2)),
                ((x, z), (z,), ("parts", 0, 0)), ((x, y, z), (x, z), ("parts", 1, 0)), ((z, y), (y,), ("parts", 1, 0)),
                ((u, x, z, y), (x,), ("left", (u, z, y))), ((u, x, z, y), (x, y), ("parts", 1, 0)),
                ((u, x, u, z, y), (x, u), ("left", (u, z, y))), ((z, z, x), (z,), ("left", (z, x))),
                ((x,), (x,), ("left", ())), ((x, y), ((1, 1),), ("parts", 1, 0)), ((), (), ("left", ()))):
            check_exact(self, meetings_left(hall, weaving, past), told)

    def test_weaving_ahead_of_past(self):
        hall = Hall(CHAIN)
        check_error(self, "BadWeaving", -1, meetings_left, hall, [], ((9, 0),))
        check_error(self, "BadWeaving", 0, meetings_left, hall, ((9, 0),), None)
        check_error(self, "BadWeaving", 2, meetings_left, hall, ((0, 0),), ((0, 0), (1, 0), (3, 0)))
        check_error(self, "BadWeaving", -1, meetings_left, hall, ((0, 0),), [(0, 0)])


def plain_is_weaving(plain, weaving):
    state = plain.start()
    for kind, _ in weaving:
        if plain.told_refusal(state, kind) is not None:
            return False
        state = plain.behind(state, kind)
    return True


def plain_left(plain, weaving, past):
    done = list(past)
    left = []
    for meeting in weaving:
        # The first ones of equal meetings are those that the past has.
        if meeting in done:
            done.remove(meeting)
        else:
            left.append(meeting)
    return tuple(left)


def plain_parts_left(plain, weaving, past):
    for hand in range(len(plain.hands)):
        mine, its = plain.row(past, hand), plain.row(weaving, hand)
        if its[:len(mine)] != mine:
            place = 0
            while mine[:place + 1] == its[:place + 1]:
                place += 1
            return ("parts", hand, place)
    return None


class StoriesTest(unittest.TestCase):
    """Whatever the order of strangers, the same is told; only the numbers of meetings differ."""

    def test_all_weavings_of_one_story(self):
        for hall, plain, weaving, _ in odd_cases(62, 120, 6, loads=1):
            told = told_by_names(hall, weaving)
            for other in list(plain.story(weaving))[:30]:
                self.assertEqual(told_by_names(hall, other), told)
                check_exact(self, joined_pasts(hall, (other, weaving)), joined_pasts(hall, (weaving,)))
                check_exact(self, meetings_left(hall, other, weaving), ("left", ()))


def told_by_names(hall, weaving):
    """What all functions tell, each meeting called by how many equal ones stand ahead of it."""
    names = [(meeting, weaving[:place].count(meeting)) for place, meeting in enumerate(weaving)]

    def named(value):
        if value is None or isinstance(value, str):
            return value
        return frozenset(names[number] for number in value)

    told = [frozenset((names[number], named(past_of(hall, weaving, number))) for number in range(len(weaving)))]
    told.append(named(top_meetings(hall, weaving)))
    for one in range(len(hall.hands)):
        told.append(named(view_of(hall, weaving, one)))
        told.append([None if number is None else names[number] for number in news_of(hall, weaving, one)])
        for other in range(len(hall.hands)):
            numbers, tops = common_past(hall, weaving, one, other)
            told.append((named(numbers), frozenset((names[number], mine, its) for number, mine, its in tops)))
    for hands in all_hands(hall):
        told.append([named(part) for part in common_to(hall, weaving, hands)])
        row, number = by_turns(hall, weaving, hands)
        told.append(([names[taken] for taken in row], None if number is None else names[number]))
    return told


class WrongWeavingsTest(unittest.TestCase):
    CALLS = (lambda hall, weaving: past_of(hall, weaving, 0), lambda hall, weaving: view_of(hall, weaving, 0),
             lambda hall, weaving: news_of(hall, weaving, 0), lambda hall, weaving: news_of_news(hall, weaving, 0),
             lambda hall, weaving: common_past(hall, weaving, 0, 1),
             lambda hall, weaving: common_to(hall, weaving, (0,)),
             top_meetings, lambda hall, weaving: by_turns(hall, weaving, (0, 1)),
             lambda hall, weaving: meetings_left(hall, weaving, ()),
             lambda hall, weaving: meetings_left(hall, (), weaving))

    def test_what_is_no_weaving(self):
        check_wrong_weavings(self, self.CALLS)


class LimitsTest(unittest.TestCase):
    def test_weavings_of_400_meetings(self):
        for text in (ALONE, EIGHT, ROW, COMING, PAIR):
            hall, plain, numbers = Hall(text), Plain(text), Numbers(63)
            weaving = tuple((kind, GREAT - load) for kind, load in plain.odd_weaving(numbers, 400))
            pasts = plain.pasts(weaving)
            last = len(weaving) - 1
            check_exact(self, past_of(hall, weaving, last), ascending(pasts[last]))
            check_exact(self, top_meetings(hall, weaving), plain.tops(weaving, set(range(last + 1))))
            for hand in range(len(hall.hands)):
                check_exact(self, view_of(hall, weaving, hand), ascending(plain.view(weaving, hand)))
                check_exact(self, common_past(hall, weaving, hand, 0), plain_common(plain, weaving, hand, 0))
                if view_of(hall, weaving, hand):
                    check_exact(self, news_of_news(hall, weaving, hand)[hand], news_of(hall, weaving, hand))
            for hands in all_hands(hall):
                common = set.intersection(*[plain.view(weaving, hand) for hand in hands])
                check_exact(self, common_to(hall, weaving, hands), (ascending(common), plain.tops(weaving, common)))
                self.assertEqual(by_turns(hall, weaving, hands)[1], max(
                    (number for number, (kind, _) in enumerate(weaving) if set(hands) <= set(plain.lot(kind))),
                    default=None))
            least = least_weaving(hall, weaving)
            pasts = tuple(least[:many] for many in (400, 0, 399, 7, 100)) + (weaving,)
            check_exact(self, joined_pasts(hall, pasts), ("joined", least))
            check_exact(self, meetings_left(hall, weaving, weaving[:150]), ("left", weaving[150:]))
            self.assertEqual(meetings_left(hall, weaving[:150], weaving)[0], "parts")

    def test_joined_from_six_long_pasts_and_passed_in_again(self):
        hall = Hall(ALONE)
        pasts = tuple(((kind, 7),) * 400 for kind in range(5)) + (((0, 7),) * 300,)
        word, joined = joined_pasts(hall, pasts)
        check_exact(self, joined, tuple((kind, 7) for kind in range(5) for _ in range(400)))
        check_exact(self, joined_pasts(hall, (joined, pasts[2])), ("joined", joined))
        check_exact(self, top_meetings(hall, joined), (399, 799, 1199, 1599, 1999))
        check_exact(self, meetings_left(hall, joined, pasts[1]), ("left", joined[:400] + joined[800:]))

    def test_a_row_that_takes_all_turns(self):
        hall = Hall("hands a b c\ntaken a b c\nmeet x a b\nmeet y b c\nmeet z a c")
        weaving = tuple((number % 3, 0) for number in range(400))
        row, number = by_turns(hall, weaving, (0, 1, 2))
        self.assertIsNone(number)
        check_exact(self, (row, number), plain_turns(Plain(hall.text), weaving, (0, 1, 2)))
        self.assertGreater(len(row), 100)


class ConventionsTest(unittest.TestCase):
    def test_by_names(self):
        hall, weaving = Hall(CHAIN), ((0, 0), (2, 0), (1, 0))
        self.assertEqual(past_of(number=2, weaving=weaving, hall=hall), (0, 1, 2))
        self.assertEqual(view_of(hand=0, weaving=weaving, hall=hall), (0,))
        self.assertEqual(news_of(hand=0, weaving=weaving, hall=hall), (0, 0, None))
        self.assertEqual(news_of_news(hand=0, weaving=weaving, hall=hall), ((0, 0, None), (0, 0, None), None))
        self.assertEqual(common_past(other=1, one=0, weaving=weaving, hall=hall), ((0,), ((0, 0, 0),)))
        self.assertEqual(common_to(hands=(0, 1), weaving=weaving, hall=hall), ((0,), (0,)))
        self.assertEqual(top_meetings(weaving=weaving, hall=hall), (2,))
        self.assertEqual(by_turns(hands=(0, 1), weaving=weaving, hall=hall), ((0,), 0))
        self.assertEqual(joined_pasts(pasts=(weaving,), hall=hall), ("joined", weaving))
        self.assertEqual(meetings_left(past=weaving[:1], weaving=weaving, hall=hall), ("left", weaving[1:]))

    def test_results_are_tuples_of_integers(self):
        for text in TEXTS:
            hall, plain = Hall(text), Plain(text)
            weaving = plain.odd_weaving(Numbers(3), 6)
            for told in (view_of(hall, weaving, 0), news_of(hall, weaving, 0), news_of_news(hall, weaving, 0),
                         common_past(hall, weaving, 0, 1), common_to(hall, weaving, (0, 1)),
                         top_meetings(hall, weaving),
                         by_turns(hall, weaving, (0, 1)), joined_pasts(hall, (weaving,)),
                         meetings_left(hall, weaving, ())):
                self.assertIs(type(told), tuple)
                self.assertNotIn("[", repr(told))
                self.assertNotIn("True", repr(told))


if __name__ == "__main__":
    unittest.main()
