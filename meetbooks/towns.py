"""Towns: halls told otherwise, with other names, with one hand more, by finer meetings."""

from meetbooks.checks import check_hand, check_still, is_below
from meetbooks.errors import BadNames, BadRows, Full, OtherHands
from meetbooks.halls import HERE, MOST_COMERS, MOST_HANDS, Hall, may_be_called
from meetbooks.weavings import holders_of


def text_of(hands, holders, kinds):
    """The text of a hall with these names of hands, these holders at first and these kinds, as Hall has them."""
    here = [name for name, holder in zip(hands, holders) if holder == HERE]
    lines = [" ".join(["hands", *hands]), " ".join(["taken", *here])]
    for name, holder in zip(hands, holders):
        if holder != HERE:
            lines.append(f"right {name} {hands[holder]}")
    for name, comers, begins, ends, gives in kinds:
        words = ["meet", name] + [hands[comer] for comer in comers]
        for word, hand in (("begins", begins), ("ends", ends), ("gives", gives)):
            if hand is not None:
                words.extend([word, hands[hand]])
        lines.append(" ".join(words))
    return "\n".join(lines)


def check_names(names, many):
    """Raise BadNames for what is not a tuple of so many names that hands or kinds may have, no two alike."""
    if not isinstance(names, tuple) or len(names) != many:
        raise BadNames(names)
    if not all([may_be_called(name) for name in names]) or len(set(names)) < many:
        raise BadNames(names)


def renamed_hall(hall, hands, kinds):
    """The hall with these names of its hands and kinds."""
    check_names(hands, len(hall.hands))
    check_names(kinds, len(hall))
    renamed = [(name, *told[1:]) for name, told in zip(kinds, hall.kinds)]
    return Hall(text_of(hands, hall.first_holders, renamed))


def with_twin(comers, hand, twin):
    """The comers with the twin right behind the hand, if the hand is one of them."""
    if hand not in comers:
        return comers
    place = comers.index(hand) + 1
    return comers[:place] + (twin,) + comers[place:]


def split_hand(hall, hand, name):
    """The hall with a twin of the hand that comes to all meetings to which the hand comes."""
    check_still(hall)
    check_hand(hall, hand)
    if not may_be_called(name) or name in hall.hands:
        raise BadNames(name)
    if len(hall.hands) == MOST_HANDS:
        raise Full(hall.hands)
    for kind, told in enumerate(hall.kinds):
        if hand in told[1] and len(told[1]) == MOST_COMERS:
            raise Full(kind)
    kinds = [(told[0], with_twin(told[1], hand, len(hall.hands)), *told[2:]) for told in hall.kinds]
    holders = (*hall.first_holders, hall.first_holders[hand])
    return Hall(text_of((*hall.hands, name), holders, kinds))


def here_at_first(hall):
    """For each hand whether it is here at first."""
    return [holder == HERE for holder in hall.first_holders]


def are_finer(hall, other, kind, row):
    """Whether row is a tuple of one or more kinds of other whose lots are contained in the lot of this kind."""
    if not isinstance(row, tuple) or len(row) == 0 or not all([is_below(one, len(other)) for one in row]):
        return False
    for one in row:
        if not all([hand in hall.lots[kind] for hand in other.lots[one]]):
            return False
    return True


def check_rows(hall, other, rows):
    """Raise BadRows for what is not a tuple with a row of finer kinds for each kind."""
    if not isinstance(rows, tuple) or len(rows) != len(hall):
        raise BadRows(rows)
    if not all([are_finer(hall, other, kind, row) for kind, row in enumerate(rows)]):
        raise BadRows(rows)


def finer_weaving(hall, other, rows, weaving):
    """The weaving of other that has, in the place of each meeting, the kinds of its row, the first with its load."""
    check_still(hall)
    check_still(other)
    if hall.hands != other.hands or here_at_first(hall) != here_at_first(other):
        raise OtherHands(other.hands)
    check_rows(hall, other, rows)
    holders_of(hall, weaving)
    finer = []
    for kind, load in weaving:
        finer.append((rows[kind][0], load))
        finer.extend([(one, 0) for one in rows[kind][1:]])
    return tuple(finer)
