"""What several parts of the package ask of single values."""

from meetbooks.errors import BadHand, BadHands, BadKind, BadNumber, NotStill

LETTERS = "abcdefghijklmnopqrstuvwxyz"
FIGURES = "0123456789"
LONGEST_NAME = 8
MOST_FIGURES = 9


def is_integer(value):
    """Whether value is an integer; bools are none here."""
    return isinstance(value, int) and not isinstance(value, bool)


def is_below(value, many):
    """Whether value is an integer from 0 to many - 1."""
    return is_integer(value) and 0 <= value < many


def is_name(value):
    """Whether value is a string of one to eight letters a to z."""
    if not isinstance(value, str) or not 1 <= len(value) <= LONGEST_NAME:
        return False
    return all([sign in LETTERS for sign in value])


def is_ascending(values):
    """Whether each of the values is greater than the one before it."""
    return all([low < high for low, high in zip(values, values[1:])])


def written_integer(word, most=MOST_FIGURES):
    """The integer that is written in word as Python writes it, with at most so many figures; None for other words."""
    figures = word.removeprefix("-")
    if not 1 <= len(figures) <= most or not all([sign in FIGURES for sign in figures]):
        return None
    number = int(word)
    return number if str(number) == word else None


def is_meeting(hall, value):
    """Whether value is a pair of the number of a kind and an integer."""
    if not isinstance(value, tuple) or len(value) != 2:
        return False
    return is_below(value[0], len(hall)) and is_integer(value[1])


def check_kind(hall, kind):
    """Raise BadKind for what is not the number of a kind."""
    if not is_below(kind, len(hall)):
        raise BadKind(kind)


def check_hand(hall, hand):
    """Raise BadHand for what is not the number of a hand."""
    if not is_below(hand, len(hall.hands)):
        raise BadHand(hand)


def are_below(value, many):
    """Whether value is a tuple of integers from 0 to many - 1."""
    return isinstance(value, tuple) and all([is_below(number, many) for number in value])


def check_hands(hall, hands):
    """Raise BadHands for what is not an ascending tuple of one number of a hand or more."""
    if not are_below(hands, len(hall.hands)) or len(hands) == 0 or not is_ascending(hands):
        raise BadHands(hands)


def check_number(value, many):
    """Raise BadNumber for what is not an integer from 0 to many - 1."""
    if not is_below(value, many):
        raise BadNumber(value)


def check_still(hall):
    """Raise NotStill with the first kind that begins, ends or gives a hand."""
    for kind, told in enumerate(hall.kinds):
        if told[2:] != (None, None, None):
            raise NotStill(kind)
