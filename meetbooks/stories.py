"""Stories: what stays of a weaving when the order of strangers means nothing."""

from meetbooks.checks import check_hand, is_below
from meetbooks.errors import NotSame
from meetbooks.tours import Tour
from meetbooks.weavings import holders_behind, holders_of, share_no_hand, told_refusal

MOST_CUTS = 10000


def row_told(hall, weaving, hand):
    """The meetings whose lot contains the hand, in their order."""
    return tuple([meeting for meeting in weaving if hand in hall.lots[meeting[0]]])


def rows_told(hall, weaving):
    """The rows of all hands."""
    return [row_told(hall, weaving, hand) for hand in range(len(hall.hands))]


def common_length(one, other):
    """How many meetings two rows have in common before the first one that differs."""
    many = 0
    for mine, its in zip(one, other):
        if mine != its:
            break
        many += 1
    return many


def story_told(one, other):
    """What same_story tells of two weavings with these rows."""
    for hand, row in enumerate(one):
        if row != other[hand]:
            return ("parts", hand, common_length(row, other[hand]))
    return ("same",)


def ready_meetings(hall, rows, done):
    """The meetings that come next in the rows of their whole lots, when so many of each row are done."""
    ready = []
    for hand, row in enumerate(rows):
        if done[hand] == len(row):
            continue
        meeting = row[done[hand]]
        lot = hall.lots[meeting[0]]
        # Each meeting is looked at for the first hand of its lot alone, so that it is found once.
        if hand == lot[0] and all([rows[at][done[at]:done[at] + 1] == (meeting,) for at in lot]):
            ready.append(meeting)
    return ready


def woven(hall, rows):
    """(weaving, done): the least weaving within these rows that cannot be led on there, how much of each it has.

    What can be next in the rows can be so until it is: all such weavings are of one story.
    """
    holders = hall.first_holders
    done = [0] * len(rows)
    weaving = []
    while True:
        ready = ready_meetings(hall, rows, done)
        able = [meeting for meeting in ready if told_refusal(hall, holders, meeting[0]) is None]
        if len(able) == 0:
            return tuple(weaving), done
        meeting = min(able)
        weaving.append(meeting)
        holders = holders_behind(hall, holders, meeting[0])
        for hand in hall.lots[meeting[0]]:
            done[hand] += 1


def least_woven(hall, rows):
    """The least weaving that has these rows, which are those of some story."""
    return woven(hall, rows)[0]


def cut_behind(cut, lot):
    """The cut that has one meeting of this lot more than this one."""
    return tuple([many + 1 if hand in lot else many for hand, many in enumerate(cut)])


def cuts_tour(hall, rows):
    """The tour through all cuts of the story that has these rows, by its meetings; raises TooMany(10000)."""
    def steps(cut):
        ready = sorted(ready_meetings(hall, rows, cut))
        return [(meeting, cut_behind(cut, hall.lots[meeting[0]])) for meeting in ready]

    return Tour((0,) * len(rows), steps, MOST_CUTS)


def places_in(one, other):
    """For each meeting of other the place in one at which this very meeting stands."""
    places = {}
    for place, meeting in enumerate(one):
        places.setdefault(meeting, []).append(place)
    taken = {meeting: 0 for meeting in places}
    found = []
    for meeting in other:
        # Equal meetings share a hand and never pass one another: the first is the first in both.
        found.append(places[meeting][taken[meeting]])
        taken[meeting] += 1
    return found


def exchanges(one, other):
    """The places of exchanges that lead from one to other, which are of one story."""
    left = list(range(len(one)))
    steps = []
    for goal, place in enumerate(places_in(one, other)):
        ahead = left.index(place)
        left.pop(ahead)
        steps.extend(list(reversed(range(goal, goal + ahead))))
    return tuple(steps)


def hand_row(hall, weaving, hand):
    """The row of the hand in the weaving."""
    holders_of(hall, weaving)
    check_hand(hall, hand)
    return row_told(hall, weaving, hand)


def same_story(hall, one, other):
    """("same",) for weavings of one story, otherwise ("parts", hand, place)."""
    holders_of(hall, one)
    holders_of(hall, other)
    return story_told(rows_told(hall, one), rows_told(hall, other))


def story_levels(hall, weaving):
    """The levels of the story of the weaving, each one ascending."""
    holders_of(hall, weaving)
    heights = [0] * len(hall.hands)
    levels = []
    for meeting in weaving:
        lot = hall.lots[meeting[0]]
        level = max([heights[hand] for hand in lot])
        if level == len(levels):
            levels.append([])
        levels[level].append(meeting)
        for hand in lot:
            heights[hand] = level + 1
    return tuple([tuple(sorted(level)) for level in levels])


def least_weaving(hall, weaving):
    """The least weaving of the story of the weaving."""
    holders_of(hall, weaving)
    return least_woven(hall, rows_told(hall, weaving))


def led_over(hall, one, other):
    """As few places of exchanges as possible that lead from one to other."""
    told = same_story(hall, one, other)
    if told != ("same",):
        raise NotSame(told)
    return exchanges(one, other)


def shows_led_over(hall, one, other, value):
    """Whether value is a result that led_over may return for these weavings."""
    fewest = len(led_over(hall, one, other))
    if not isinstance(value, tuple) or len(value) != fewest:
        return False
    weaving = list(one)
    for place in value:
        if not is_below(place, len(weaving) - 1):
            return False
        first, second = weaving[place], weaving[place + 1]
        if not share_no_hand(hall, first[0], second[0]):
            return False
        weaving[place], weaving[place + 1] = second, first
    return tuple(weaving) == other


def is_beginning(hall, one, other):
    """Whether some weaving of the story of other starts with the meetings of one."""
    holders_of(hall, one)
    holders_of(hall, other)
    longer = rows_told(hall, other)
    for hand, row in enumerate(rows_told(hall, one)):
        if longer[hand][:len(row)] != row:
            return False
    return True
