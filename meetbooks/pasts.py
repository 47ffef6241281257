"""Pasts: what meetings hang on, what hands have heard, and what several of them have in common.

A past, a view and what views have in common contain, of the row of each hand, just so many
of the first meetings. These numbers, one for each hand, are called a reach here.
"""

from meetbooks.checks import check_hand, check_hands, check_number
from meetbooks.errors import BadPasts
from meetbooks.stories import common_length, least_woven, rows_told
from meetbooks.weavings import holders_of, walked

MOST_PASTS = 6


class Heard:
    """A weaving by numbers: the lots of its meetings, the rows of hands, the reaches of pasts and views."""

    def __init__(self, hall, weaving):
        self.holders = holders_of(hall, weaving)
        self.lots = [hall.lots[meeting[0]] for meeting in weaving]
        self.rows = [[] for name in hall.hands]
        self.views = [(0,) * len(hall.hands) for name in hall.hands]
        self.pasts = []
        for number, lot in enumerate(self.lots):
            past = list(greatest_reach([self.views[hand] for hand in lot]))
            for hand in lot:
                self.rows[hand].append(number)
                past[hand] += 1
            self.pasts.append(tuple(past))
            for hand in lot:
                self.views[hand] = tuple(past)


def greatest_reach(reaches):
    """The reach of what is in one of several."""
    return tuple([max([reach[hand] for reach in reaches]) for hand in range(len(reaches[0]))])


def least_reach(reaches):
    """The reach of what is in all of several."""
    return tuple([min([reach[hand] for reach in reaches]) for hand in range(len(reaches[0]))])


def numbers_within(heard, reach):
    """The ascending numbers of the meetings that this reach contains."""
    found = []
    for hand, row in enumerate(heard.rows):
        found.extend(row[:reach[hand]])
    return tuple(sorted(set(found)))


def is_in_past(heard, number, later):
    """Whether the meeting number is in the past of the meeting later."""
    hand = heard.lots[number][0]
    return heard.pasts[number][hand] <= heard.pasts[later][hand]


def news_within(heard, reach):
    """For each hand the number of its last meeting within this reach, or None."""
    return tuple([row[reach[hand] - 1] if reach[hand] > 0 else None for hand, row in enumerate(heard.rows)])


def tops_within(heard, reach):
    """The ascending numbers within this reach that no other one of them hangs on."""
    news = news_within(heard, reach)
    tops = []
    for number in news:
        # What hangs on a meeting comes behind it in the row of some hand of its lot.
        if number is not None and all([news[hand] == number for hand in heard.lots[number]]):
            tops.append(number)
    return tuple(sorted(set(tops)))


def past_of(hall, weaving, number):
    """The past of the meeting with this number."""
    heard = Heard(hall, weaving)
    check_number(number, len(weaving))
    return numbers_within(heard, heard.pasts[number])


def view_of(hall, weaving, hand):
    """What the hand has heard: the past of its last meeting."""
    heard = Heard(hall, weaving)
    check_hand(hall, hand)
    return numbers_within(heard, heard.views[hand])


def news_of(hall, weaving, hand):
    """The news of each hand in the view of this hand."""
    heard = Heard(hall, weaving)
    check_hand(hall, hand)
    return news_within(heard, heard.views[hand])


def news_of_news(hall, weaving, hand):
    """For each hand the news of each hand in the past of its news in the view of this hand."""
    heard = Heard(hall, weaving)
    check_hand(hall, hand)
    told = []
    for number in news_within(heard, heard.views[hand]):
        told.append(None if number is None else news_within(heard, heard.pasts[number]))
    return tuple(told)


def common_past(hall, weaving, one, other):
    """(numbers, tops) of what is in the views of both hands."""
    heard = Heard(hall, weaving)
    check_hand(hall, one)
    check_hand(hall, other)
    common = least_reach([heard.views[one], heard.views[other]])
    mine = news_within(heard, heard.views[one])
    its = news_within(heard, heard.views[other])
    tops = [(number, mine.index(number), its.index(number)) for number in tops_within(heard, common)]
    return numbers_within(heard, common), tuple(tops)


def common_to(hall, weaving, hands):
    """(numbers, greatest) of what is in the views of all these hands."""
    heard = Heard(hall, weaving)
    check_hands(hall, hands)
    common = least_reach([heard.views[hand] for hand in hands])
    return numbers_within(heard, common), tops_within(heard, common)


def top_meetings(hall, weaving):
    """The ascending numbers of the meetings that no meeting hangs on."""
    heard = Heard(hall, weaving)
    return tops_within(heard, [len(row) for row in heard.rows])


def by_turns(hall, weaving, hands):
    """(row, number): what the first of hands knows that the second one knows, and so on, round and round."""
    heard = Heard(hall, weaving)
    check_hands(hall, hands)
    newest = news_within(heard, heard.views[hands[0]])[hands[0]]
    row = []
    turn = 0
    unchanged = 0
    # Once each hand in turn has left the meeting as it is, all of them were at it.
    while newest is not None and unchanged < len(hands):
        if row[-1:] == [newest]:
            unchanged += 1
        else:
            row.append(newest)
            unchanged = 1
        turn += 1
        newest = news_within(heard, heard.pasts[newest])[hands[turn % len(hands)]]
    return tuple(row), newest


def first_parting(one, other):
    """(hand, place) of the first hand of whose two rows none begins with the other one; None if there is none."""
    for hand, row in enumerate(one):
        place = common_length(row, other[hand])
        if place < min(len(row), len(other[hand])):
            return hand, place
    return None


def check_pasts(hall, pasts):
    """Raise BadPasts for what is not a tuple of one to six weavings."""
    if not isinstance(pasts, tuple) or not 1 <= len(pasts) <= MOST_PASTS:
        raise BadPasts(-1)
    for index, past in enumerate(pasts):
        if walked(hall, past)[0] is not None:
            raise BadPasts(index)


def joined_pasts(hall, pasts):
    """("joined", weaving) with the least story that begins with each of these, or ("parts", i, j, hand, place)."""
    check_pasts(hall, pasts)
    rows = [rows_told(hall, past) for past in pasts]
    for first in range(len(rows)):
        for second in range(first + 1, len(rows)):
            parting = first_parting(rows[first], rows[second])
            if parting is not None:
                return ("parts", first, second, *parting)
    longest = [max([row[hand] for row in rows], key=len) for hand in range(len(hall.hands))]
    return ("joined", least_woven(hall, longest))


def meetings_behind(hall, weaving, done):
    """The meetings of the weaving that are not among the first ones, so many of each hand, of their hands' rows."""
    seen = [0] * len(done)
    left = []
    for meeting in weaving:
        lot = hall.lots[meeting[0]]
        if seen[lot[0]] >= done[lot[0]]:
            left.append(meeting)
        for hand in lot:
            seen[hand] += 1
    return tuple(left)


def meetings_left(hall, weaving, past):
    """("left", meetings) of the weaving behind the past, or ("parts", hand, place) if it does not begin so."""
    holders_of(hall, weaving)
    holders_of(hall, past)
    rows = rows_told(hall, weaving)
    begun = rows_told(hall, past)
    for hand, row in enumerate(begun):
        place = common_length(row, rows[hand])
        if place < len(row):
            return ("parts", hand, place)
    return ("left", meetings_behind(hall, weaving, [len(row) for row in begun]))
