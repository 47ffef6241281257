"""The errors of the package. Each keeps, as `value`, what it is about."""


class MeetError(ValueError):
    """What all errors of the package have in common."""

    def __init__(self, value):
        self.value = value


class BadHall(MeetError):
    """A text that is not the text of a hall: the number of its first wrong line, or 0."""


class BadKind(MeetError):
    """A value that is not the number of a kind."""


class BadWeaving(MeetError):
    """A value that is no weaving: the number of its first wrong part, or -1."""


class BadHand(MeetError):
    """A value that is not the number of a hand."""


class NotSame(MeetError):
    """Two weavings of unlike stories: what same_story tells of them."""


class BadHands(MeetError):
    """A value that is not an ascending tuple of numbers of hands."""


class BadNumber(MeetError):
    """A value that is no integer as it is asked for."""


class BadPasts(MeetError):
    """A value that is no tuple of pasts: the index of its first wrong part, or -1."""


class TooMany(MeetError):
    """More than can be gone through: how many there may be."""


class NotStill(MeetError):
    """A hall that is not still: the first kind that begins, ends or gives a hand."""


class BadScale(MeetError):
    """A text that is not the text of a scale: the number of its first wrong line, or 0."""


class BadMeeting(MeetError):
    """A value that is no meeting of the hall."""


class BadValue(MeetError):
    """A value that is not a value of the scale."""


class Clashes(MeetError):
    """A scale that does not fit: what scale_fits tells of it."""


class BadNumbers(MeetError):
    """A value that is not the numbers of a beginning of the weaving."""


class NotFinite(MeetError):
    """Scales that have endless values: which of the two is the first such one."""


class BadBooks(MeetError):
    """A value that is not a tuple of as many books as are asked for."""


class NoRight(MeetError):
    """A meeting that nobody there may have: the hand that nobody has the right to begin."""


class BadBook(MeetError):
    """A value that is no book."""


class BadRule(MeetError):
    """A text that is not the text of a rule: the place at which it goes wrong."""


class BadKinds(MeetError):
    """A value that is not a row of numbers of kinds."""


class OtherHall(MeetError):
    """A rule of another hall, or what is no rule at all."""


class NotFair(MeetError):
    """A rule that is not fair: what fairness tells of it."""


class NotLasting(MeetError):
    """A rule that is not lasting: the row that tells it."""


class CannotBe(MeetError):
    """A meeting that cannot be next: what refusal tells of it."""


class BadSpeaker(MeetError):
    """A text that is not the text of a speaker: the number of its first wrong line, or 0."""


class NotWaits(MeetError):
    """A scale that is none of waits: the first word of its text."""


class NotRound(MeetError):
    """A weaving that is no round: how many times it can be done."""


class BadWishes(MeetError):
    """A value that is no tuple of wishes for each hand."""


class BadMeetings(MeetError):
    """A value that is no tuple of meetings: the number of its first wrong part, or -1."""


class BadLogs(MeetError):
    """A value that is not a tuple with a log for each hand."""


class BadNames(MeetError):
    """A value that is not the names that are asked for."""


class Full(MeetError):
    """A hall or a kind that cannot take one more hand."""


class OtherHands(MeetError):
    """Halls with unlike hands: the names of the hands of the other one."""


class BadRows(MeetError):
    """A value that is not a row of finer kinds for each kind."""


class Refused(MeetError):
    """A meeting that a desk refuses: what refusal tells of it."""


class TooFar(MeetError):
    """A step beyond what a desk holds: how far it can go."""


class BadName(MeetError):
    """A value that is not a name."""


class Held(MeetError):
    """A name that a mark of the desk has already."""


class NoMark(MeetError):
    """A value that is not the name of a mark of the desk."""


class Parts(MeetError):
    """Weavings that cannot be joined: what joined_pasts tells of them."""


class BadJournal(MeetError):
    """A text that is no journal: the number of its first wrong line, or 0."""
