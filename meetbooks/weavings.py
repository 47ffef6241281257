"""Weavings: which meetings can be behind one another, and how things stand behind them.

Standings are reckoned as `holders`: a tuple with, for each hand that is away, the hand
that has the right to begin it, and with HERE for each hand that is here.
"""

from meetbooks.checks import check_kind, is_meeting
from meetbooks.errors import BadWeaving
from meetbooks.halls import HERE, standing_told


def told_refusal(hall, holders, kind):
    """What refusal tells of a meeting of this kind where these are the holders."""
    for comer in hall.kinds[kind][1]:
        if holders[comer] != HERE:
            return ("away", comer)
    hand = hand_out_of_reach(hall, holders, kind)
    return None if hand is None else ("right", hand)


def hand_out_of_reach(hall, holders, kind):
    """The first hand that the kind begins or gives and that no comer has the right to begin, or None."""
    comers, begins, _, gives = hall.kinds[kind][1:]
    for hand in (begins, gives):
        if hand is not None and holders[hand] not in comers:
            return hand
    return None


def holders_behind(hall, holders, kind):
    """The holders behind a meeting of this kind, which can be where these are the holders."""
    comers, begins, ends, gives = hall.kinds[kind][1:]
    after = list(holders)
    if begins is not None:
        after[begins] = HERE
    if gives is not None:
        after[gives] = comers[-1]
    if ends is not None:
        heir = [comer for comer in comers if comer != ends][0]
        after = [heir if holder == ends else holder for holder in after]
        after[ends] = heir
    return tuple(after)


def steps_from(hall, holders):
    """(kind, holders behind it) of all kinds that can be where these are the holders, ascending."""
    steps = []
    for kind in range(len(hall)):
        if told_refusal(hall, holders, kind) is None:
            steps.append((kind, holders_behind(hall, holders, kind)))
    return steps


def walked(hall, weaving):
    """(number, holders): the number that BadWeaving tells, None for a weaving, and the holders that were come to."""
    holders = hall.first_holders
    if not isinstance(weaving, tuple):
        return -1, holders
    for number, meeting in enumerate(weaving):
        if not is_meeting(hall, meeting) or told_refusal(hall, holders, meeting[0]) is not None:
            return number, holders
        holders = holders_behind(hall, holders, meeting[0])
    return None, holders


def holders_of(hall, weaving):
    """The holders behind the weaving; raises BadWeaving for what is none."""
    number, holders = walked(hall, weaving)
    if number is not None:
        raise BadWeaving(number)
    return holders


def share_no_hand(hall, one, other):
    """Whether no hand is in the lots of both kinds."""
    return not any([hand in hall.lots[other] for hand in hall.lots[one]])


def standing_of(hall, weaving):
    """The standing behind the weaving."""
    return standing_told(holders_of(hall, weaving))


def next_kinds(hall, weaving):
    """The ascending tuple of all kinds whose meetings can be behind the weaving."""
    return tuple([kind for kind, _ in steps_from(hall, holders_of(hall, weaving))])


def refusal(hall, weaving, kind):
    """None if a meeting of this kind can be behind the weaving, otherwise what is in its way."""
    holders = holders_of(hall, weaving)
    check_kind(hall, kind)
    return told_refusal(hall, holders, kind)


def lot_of(hall, kind):
    """The comers of the kind and the hand that it begins, ascending."""
    check_kind(hall, kind)
    return hall.lots[kind]


def are_strangers(hall, one, other):
    """Whether no hand is in the lots of both kinds."""
    check_kind(hall, one)
    check_kind(hall, other)
    return share_no_hand(hall, one, other)
