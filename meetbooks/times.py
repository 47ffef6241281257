"""Times: when meetings begin and end, what makes them late, how fast rounds can be.

The scale is one of waits: a meeting lasts for the number of its kind plus its load.
"""

from math import gcd

from meetbooks.checks import check_hand, check_number
from meetbooks.errors import NotRound, NotWaits
from meetbooks.pasts import Heard, is_in_past
from meetbooks.weavings import holders_behind, told_refusal
from meetbooks.worths import row_worth


class Clock:
    """A weaving with the times at which its meetings begin and end."""

    def __init__(self, scale, weaving):
        if scale.word != "waits":
            raise NotWaits(scale.word)
        self.heard = Heard(scale.hall, weaving)
        self.durations = [scale.rows[kind][0] + load for kind, load in weaving]
        # For each hand from when on it is free.
        self.free = [0] * len(scale.hall.hands)
        self.moments = []
        for lot, duration in zip(self.heard.lots, self.durations):
            begin = max([self.free[hand] for hand in lot])
            self.moments.append((begin, begin + duration))
            for hand in lot:
                self.free[hand] = begin + duration


def latest_end(clock):
    """The greatest end of a meeting, of which there is one."""
    return max([end for _, end in clock.moments])


def followers_of(heard):
    """For each meeting the meetings, ascending, that come next in the row of some hand of its lot."""
    followers = [[] for lot in heard.lots]
    for row in heard.rows:
        for number, after in zip(row, row[1:]):
            followers[number].append(after)
    return [sorted(set(found)) for found in followers]


def weights_ahead(clock, followers):
    """For each meeting the greatest weight of what begins with it and goes on as a chain."""
    ahead = [0] * len(followers)
    for number in reversed(range(len(followers))):
        ahead[number] = clock.durations[number] + max([0] + [ahead[after] for after in followers[number]])
    return ahead


def moments_of(scale, weaving):
    """(begin, end) of all meetings, by their numbers."""
    return tuple(Clock(scale, weaving).moments)


def ends_of(scale, weaving):
    """For each hand the end of its last meeting, or 0."""
    return tuple(Clock(scale, weaving).free)


def heaviest_chain(scale, weaving):
    """(weight, numbers): the greatest end of a meeting, and the least chain of this weight."""
    clock = Clock(scale, weaving)
    if len(weaving) == 0:
        return 0, ()
    followers = followers_of(clock.heard)
    ahead = weights_ahead(clock, followers)
    weight = latest_end(clock)
    left = weight
    chain = []
    able = sorted([row[0] for row in clock.heard.rows if row])
    # Of two chains one of which goes on from the other, the shorter one is less.
    while left != 0 or len(chain) == 0:
        number = [one for one in able if ahead[one] == left][0]
        chain.append(number)
        left = left - clock.durations[number]
        able = followers[number]
    return weight, tuple(chain)


def slack_of(scale, weaving, number):
    """How much more the load of this meeting may be, so that the greatest end of a meeting stays."""
    clock = Clock(scale, weaving)
    check_number(number, len(weaving))
    ahead = weights_ahead(clock, followers_of(clock.heard))
    return latest_end(clock) - clock.moments[number][0] - ahead[number]


def lateness(scale, weaving, number, hand):
    """How long after the end of this meeting the hand has heard of it; None if it has not."""
    clock = Clock(scale, weaving)
    check_number(number, len(weaving))
    check_hand(scale.hall, hand)
    for later in clock.heard.rows[hand]:
        if is_in_past(clock.heard, number, later):
            return clock.moments[later][1] - clock.moments[number][1]
    return None


def check_round(hall, weaving):
    """Raise NotRound with how many times the weaving can be done, unless it can be done any number of times."""
    holders = hall.first_holders
    seen = set()
    many = 0
    while holders not in seen:
        seen.add(holders)
        for kind, _ in weaving:
            if told_refusal(hall, holders, kind) is not None:
                raise NotRound(many)
            holders = holders_behind(hall, holders, kind)
        many += 1


def rings_of(waits, hands):
    """All rings of these hands: each one is followed by the next one, and the last one by the first one."""
    rings = []
    rows = [(hand,) for hand in hands]
    while rows:
        rings.extend([row for row in rows if waits[row[-1]][row[0]] is not None])
        rows = [(*row, hand) for row in rows for hand in hands
                if hand > row[0] and hand not in row and waits[row[-1]][hand] is not None]
    return rings


def round_mean(scale, weaving):
    """(top, low, ring): the greatest mean of a ring, as a fraction, and the least ring of this mean."""
    heard = Clock(scale, weaving).heard
    check_round(scale.hall, weaving)
    if len(weaving) == 0:
        return 0, 1, ()
    # What the value of the round has for two hands is the weight of the heaviest way from the one to the other.
    waits = row_worth(scale, weaving)
    best = ()
    most = 0
    for ring in sorted(rings_of(waits, [hand for hand, row in enumerate(heard.rows) if row])):
        total = sum([waits[hand][after] for hand, after in zip(ring, ring[1:] + ring[:1])])
        if best == () or total * len(best) > most * len(ring):
            best = ring
            most = total
    shared = gcd(most, len(best))
    return most // shared, len(best) // shared, best
