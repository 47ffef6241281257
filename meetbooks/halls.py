"""Halls: hands, kinds of meetings, and who may begin whom at first."""

from meetbooks.checks import is_ascending, is_name
from meetbooks.errors import BadHall

# Stands in the place of the holder of the right to begin a hand that is here: nobody has this right.
HERE = -1

FEWEST_HANDS = 2
MOST_HANDS = 5
MOST_KINDS = 8
MOST_COMERS = 3
RESERVED = ("hands", "taken", "right", "meet", "begins", "ends", "gives", "and", "end")


def may_be_called(word):
    """Whether a hand or a kind may have this name."""
    return is_name(word) and word not in RESERVED


def standing_told(holders):
    """The standing in which each hand that is away has the holder that stands in its place in holders."""
    standing = []
    for hand, holder in enumerate(holders):
        if holder == HERE:
            rights = [other for other, owner in enumerate(holders) if owner == hand]
            standing.append(("here", tuple(rights)))
        else:
            standing.append(("away",))
    return tuple(standing)


class HallDraft:
    """What the lines of a hall's text have told so far."""

    def __init__(self):
        self.hands = ()
        # None stands for a hand that is away until its line `right` tells who may begin it.
        self.holders = []
        self.kinds = []


def takes_line(draft, words):
    """Take the words of one more line into the draft; returns whether this line can follow."""
    if len(draft.hands) == 0:
        return takes_hands(draft, words)
    if len(draft.holders) == 0:
        return takes_taken(draft, words)
    if None in draft.holders:
        return takes_right(draft, words)
    return takes_meet(draft, words)


def takes_hands(draft, words):
    names = words[1:]
    if words[0] != "hands" or not FEWEST_HANDS <= len(names) <= MOST_HANDS:
        return False
    if not all([may_be_called(name) for name in names]) or len(set(names)) < len(names):
        return False
    draft.hands = tuple(names)
    return True


def takes_taken(draft, words):
    names = words[1:]
    if words[0] != "taken" or len(names) == 0:
        return False
    if not all([name in draft.hands for name in names]):
        return False
    if not is_ascending([draft.hands.index(name) for name in names]):
        return False
    draft.holders = [HERE if name in names else None for name in draft.hands]
    return True


def takes_right(draft, words):
    hand = draft.holders.index(None)
    if len(words) != 3 or words[0] != "right" or words[1] != draft.hands[hand]:
        return False
    if words[2] not in draft.hands:
        return False
    owner = draft.hands.index(words[2])
    if draft.holders[owner] != HERE:
        return False
    draft.holders[hand] = owner
    return True


def takes_meet(draft, words):
    if len(draft.kinds) == MOST_KINDS or len(words) < 2 or words[0] != "meet":
        return False
    name = words[1]
    if not may_be_called(name) or name in [kind[0] for kind in draft.kinds]:
        return False
    told = comers_told(draft.hands, words[2:])
    if told is None:
        return False
    draft.kinds.append((name, *told))
    return True


def comers_told(hands, words):
    """(comers, begins, ends, gives) as the words behind a kind's name tell them; None if they cannot stand there."""
    rest = list(words)
    names = []
    while rest and rest[0] not in ("begins", "ends", "gives"):
        names.append(rest.pop(0))
    asked = []
    for word in ("begins", "ends", "gives"):
        if rest[:1] == [word] and len(rest) > 1:
            asked.append(rest[1])
            rest = rest[2:]
        else:
            asked.append(None)
    if rest or not all([name in hands for name in names]):
        return None
    if not all([name is None or name in hands for name in asked]):
        return None
    comers = tuple([hands.index(name) for name in names])
    begins, ends, gives = [None if name is None else hands.index(name) for name in asked]
    if not may_come_together(comers, begins, ends, gives):
        return None
    return comers, begins, ends, gives


def may_come_together(comers, begins, ends, gives):
    """Whether a kind may have these comers, and begin, end and give these hands (None for no hand)."""
    if not 1 <= len(comers) <= MOST_COMERS or len(set(comers)) < len(comers):
        return False
    if begins is not None and begins in comers:
        return False
    if ends is not None and (ends not in comers or len(comers) == 1):
        return False
    return gives is None or (gives not in comers and gives != begins)


def lot_told(kind):
    """The hands that a meeting of this kind, as Hall.kinds tells it, is in the row of."""
    comers, begins = kind[1], kind[2]
    begun = [] if begins is None else [begins]
    return tuple(sorted([*comers, *begun]))


class Hall:
    """Two to five hands and one to eight kinds of meetings, read from a text."""

    def __init__(self, text):
        if not isinstance(text, str):
            raise BadHall(0)
        draft = HallDraft()
        lines = text.split("\n")
        for number, line in enumerate(lines, start=1):
            if not takes_line(draft, line.split(" ")):
                raise BadHall(number)
        if len(draft.kinds) == 0:
            raise BadHall(len(lines) + 1)
        self.text = text
        self.hands = draft.hands
        self.kinds = tuple(draft.kinds)
        self.first_holders = tuple(draft.holders)
        self.first_standing = standing_told(self.first_holders)
        self.lots = tuple([lot_told(kind) for kind in self.kinds])
        self.is_still = all([kind[2:] == (None, None, None) for kind in self.kinds])

    def __len__(self):
        return len(self.kinds)

    def __contains__(self, value):
        return isinstance(value, str) and value in [kind[0] for kind in self.kinds]

    def __eq__(self, other):
        return isinstance(other, Hall) and self.text == other.text
