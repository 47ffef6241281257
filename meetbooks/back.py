"""Back: meetings that are taken back and done again, and what would be lost with a book."""

from meetbooks.checks import check_hand, check_number, is_meeting
from meetbooks.errors import BadMeetings
from meetbooks.halls import HERE
from meetbooks.pasts import Heard, greatest_reach, is_in_past, numbers_within
from meetbooks.weavings import holders_behind, holders_of, told_refusal


def taken_back(hall, weaving, number):
    """(left, gone): the weaving without this meeting and all that hang on it, and these."""
    heard = Heard(hall, weaving)
    check_number(number, len(weaving))
    left = []
    gone = []
    for later, meeting in enumerate(weaving):
        if is_in_past(heard, number, later):
            gone.append(meeting)
        else:
            left.append(meeting)
    return tuple(left), tuple(gone)


def check_meetings(hall, meetings):
    """Raise BadMeetings for what is not a tuple of meetings."""
    if not isinstance(meetings, tuple):
        raise BadMeetings(-1)
    for number, meeting in enumerate(meetings):
        if not is_meeting(hall, meeting):
            raise BadMeetings(number)


def done_again(hall, weaving, gone):
    """(other, skipped): the weaving with those of gone that can be done behind it, and the others."""
    holders = holders_of(hall, weaving)
    check_meetings(hall, gone)
    other = list(weaving)
    skipped = []
    # For each hand whether a meeting of it was skipped.
    waits = [False] * len(hall.hands)
    for meeting in gone:
        lot = hall.lots[meeting[0]]
        if any([waits[hand] for hand in lot]) or told_refusal(hall, holders, meeting[0]) is not None:
            skipped.append(meeting)
            for hand in lot:
                waits[hand] = True
        else:
            other.append(meeting)
            holders = holders_behind(hall, holders, meeting[0])
    return tuple(other), tuple(skipped)


def only_view(hall, weaving, hand):
    """The ascending numbers of what is in the view of the hand and in that of no other hand that is here."""
    heard = Heard(hall, weaving)
    check_hand(hall, hand)
    views = [view for one, view in enumerate(heard.views) if heard.holders[one] == HERE and one != hand]
    elsewhere = set(numbers_within(heard, greatest_reach([(0,) * len(hall.hands)] + views)))
    return tuple([number for number in numbers_within(heard, heard.views[hand]) if number not in elsewhere])
