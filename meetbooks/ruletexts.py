"""Texts of rules: where one cannot go on, and the signs that it consists of.

A text is read sign by sign. As long as each sign can follow, what was read can be led on to the
text of a rule: a `-` may stand wherever something has to, and brackets can be closed.
"""

from meetbooks.checks import LETTERS
from meetbooks.errors import BadRule

MOST_SIGNS = 200
MOST_NAMES = 12
MOST_BRACKETS = 10


class Bracket:
    """What is known of the text in brackets, or of the whole text, as far as it was read."""

    def __init__(self, is_plain):
        # Neither & nor ! may stand in it.
        self.is_plain = is_plain
        # One of them stands in it.
        self.is_mixed = False


class RuleDraft:
    """What the signs of a rule's text have told so far."""

    def __init__(self, hall):
        self.names = [kind[0] for kind in hall.kinds]
        self.brackets = [Bracket(False)]
        # The parts of the text: numbers of kinds for names, other signs as they stand.
        self.parts = []
        # The letters of a name that may go on.
        self.letters = ""
        self.many = 0
        # Something has to stand here; a `,` stands ahead of it.
        self.is_wanting = True
        self.is_behind_comma = False
        # Neither `,` nor `*` may stand behind what stands here.
        self.is_closed = False


def takes_sign(draft, sign):
    """Take one more sign into the draft; returns whether it can follow."""
    if sign in LETTERS:
        return takes_letter(draft, sign)
    if draft.letters != "" and not takes_name(draft):
        return False
    if sign == " ":
        return True
    if draft.is_wanting:
        return takes_start(draft, sign)
    return takes_further(draft, sign)


def takes_letter(draft, sign):
    longer = draft.letters + sign
    if not any([name.startswith(longer) for name in draft.names]):
        return False
    if draft.letters == "":
        if not draft.is_wanting or draft.many == MOST_NAMES:
            return False
        draft.many += 1
    draft.letters = longer
    return True


def takes_name(draft):
    """Take the name that ends here; returns whether it is one."""
    if draft.letters not in draft.names:
        return False
    take_part(draft, draft.names.index(draft.letters))
    draft.letters = ""
    return True


def take_part(draft, part):
    """Take something of which no more than itself is known."""
    draft.parts.append(part)
    draft.is_wanting = False
    draft.is_closed = False


def takes_start(draft, sign):
    """Take a sign where something has to stand."""
    if sign == "-":
        take_part(draft, sign)
        return True
    if sign == "?" and draft.many < MOST_NAMES:
        draft.many += 1
        take_part(draft, sign)
        return True
    is_plain = draft.brackets[-1].is_plain or draft.is_behind_comma
    if sign == "!" and not is_plain:
        draft.brackets[-1].is_mixed = True
        draft.parts.append(sign)
        return True
    if sign == "(" and len(draft.brackets) <= MOST_BRACKETS:
        draft.brackets.append(Bracket(is_plain))
        draft.parts.append(sign)
        draft.is_behind_comma = False
        return True
    return False


def takes_further(draft, sign):
    """Take a sign behind something that can stand as it is."""
    if sign == ")" and len(draft.brackets) > 1:
        is_mixed = draft.brackets.pop().is_mixed
        draft.brackets[-1].is_mixed = draft.brackets[-1].is_mixed or is_mixed
        draft.is_closed = is_mixed
    elif sign in "*," and not draft.is_closed:
        draft.is_wanting = sign == ","
        draft.is_behind_comma = sign == ","
    elif sign == "|" or (sign == "&" and not draft.brackets[-1].is_plain):
        draft.is_wanting = True
        draft.is_behind_comma = False
        draft.brackets[-1].is_mixed = draft.brackets[-1].is_mixed or sign == "&"
    else:
        return False
    draft.parts.append(sign)
    return True


def parts_of(hall, text):
    """The parts of a rule's text: a number for each kind's name, all other signs but blanks; raises BadRule."""
    if not isinstance(text, str):
        raise BadRule(-1)
    draft = RuleDraft(hall)
    for place, sign in enumerate(text[:MOST_SIGNS]):
        if not takes_sign(draft, sign):
            raise BadRule(place)
    if len(text) > MOST_SIGNS:
        raise BadRule(MOST_SIGNS)
    is_named = draft.letters == "" or takes_name(draft)
    if not is_named or draft.is_wanting or len(draft.brackets) > 1:
        raise BadRule(len(text))
    return draft.parts
