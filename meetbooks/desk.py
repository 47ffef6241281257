"""A desk: a row of meetings that grows, is gone back and on in, marked, joined, and taken back."""

from meetbooks.back import taken_back
from meetbooks.books import books_behind, first_books, heard_value, whole_value
from meetbooks.checks import check_kind, is_integer, is_name
from meetbooks.courses import check_here
from meetbooks.errors import BadName, BadNumber, Held, NoMark, Parts, Refused, TooFar
from meetbooks.halls import standing_told
from meetbooks.pasts import joined_pasts
from meetbooks.stories import common_length
from meetbooks.weavings import holders_behind, told_refusal


class Moment:
    """How things stand behind some meetings: the holders, and the books of all hands, None for those away."""

    def __init__(self, holders, books):
        self.holders = holders
        self.books = books


def moment_behind(scale, moment, meeting):
    """The moment behind one more meeting, which can be."""
    holders = holders_behind(scale.hall, moment.holders, meeting[0])
    return Moment(holders, books_behind(scale, moment.books, meeting))


def check_many(value):
    """Raise BadNumber for what is not an integer from 0 on."""
    if not is_integer(value) or value < 0:
        raise BadNumber(value)


class Desk:
    """A row of meetings with a place in it, the books of all hands there, and weavings that are kept by name."""

    def __init__(self, scale):
        self.scale = scale
        self.meetings = ()
        # The moments behind none, one, two and so on of the meetings.
        self.moments = (Moment(scale.hall.first_holders, first_books(scale)),)
        self.keep_marks({})
        self.stand(0)

    def __len__(self):
        return len(self.weaving)

    def __eq__(self, other):
        return (isinstance(other, Desk) and self.scale == other.scale and self.meetings == other.meetings
                and self.place == other.place and self.marked == other.marked)

    def keep_marks(self, marked):
        """Have these weavings by their names as marks."""
        self.marked = marked
        self.marks = tuple(sorted(list(marked)))

    def stand(self, place):
        """Go to this place among the meetings."""
        moment = self.moments[place]
        self.place = place
        self.weaving = self.meetings[:place]
        self.standing = standing_told(moment.holders)
        self.books = moment.books

    def hold(self, meetings):
        """Hold these meetings, which are a weaving, and stand behind all of them."""
        same = common_length(self.meetings, meetings)
        moments = list(self.moments[:same + 1])
        for meeting in meetings[same:]:
            moments.append(moment_behind(self.scale, moments[-1], meeting))
        self.meetings = meetings
        self.moments = tuple(moments)
        self.stand(len(meetings))

    def meet(self, kind, load):
        """Have one more meeting behind the place; returns (hand, value) for each hand that it leaves here."""
        hall = self.scale.hall
        check_kind(hall, kind)
        if not is_integer(load):
            raise BadNumber(load)
        told = told_refusal(hall, self.moments[self.place].holders, kind)
        if told is not None:
            raise Refused(told)
        self.hold((*self.weaving, (kind, load)))
        left = [hand for hand in hall.lots[kind] if self.books[hand] is not None]
        return tuple([(hand, heard_value(self.scale, self.books[hand])) for hand in left])

    def back(self, many):
        """Go back by so many meetings."""
        check_many(many)
        if many > self.place:
            raise TooFar(self.place)
        self.stand(self.place - many)

    def on(self, many):
        """Go on by so many meetings."""
        check_many(many)
        most = len(self.meetings) - self.place
        if many > most:
            raise TooFar(most)
        self.stand(self.place + many)

    def together(self, hands):
        """The value of all that these hands have heard together."""
        check_here(self.scale.hall, hands, self.moments[self.place].holders)
        return whole_value(self.scale, tuple([self.books[hand] for hand in hands]))

    def mark(self, name):
        """Keep the weaving by this name."""
        if not is_name(name):
            raise BadName(name)
        if name in self.marked:
            raise Held(name)
        self.keep_marks({**self.marked, name: self.weaving})

    def weaving_of(self, name):
        """The weaving of the mark with this name."""
        if name not in self.marks:
            raise NoMark(name)
        return self.marked[name]

    def to(self, name):
        """Hold the weaving of this mark."""
        self.hold(self.weaving_of(name))

    def join(self, name):
        """Hold the least weaving of all that is in the weaving or in that of this mark."""
        told = joined_pasts(self.scale.hall, (self.weaving, self.weaving_of(name)))
        if told[0] == "parts":
            raise Parts(told)
        self.hold(told[1])

    def take_back(self, number):
        """Take back the meeting with this number and all that hang on it; returns these."""
        left, gone = taken_back(self.scale.hall, self.weaving, number)
        self.hold(left)
        return gone

    def tried(self, look, *, keep=False):
        """What look returns for the desk; behind it the desk is as it was, unless keep is True and look returned."""
        before = self.copy()
        is_kept = None
        try:
            told = look(self)
            if keep is True:
                is_kept = True
        finally:
            if is_kept is None:
                self.meetings, self.moments, self.place = before.meetings, before.moments, before.place
                self.weaving, self.standing, self.books = before.weaving, before.standing, before.books
                self.marked, self.marks = before.marked, before.marks
        return told

    def copy(self):
        """An equal desk that goes its own way."""
        twin = Desk(self.scale)
        twin.meetings = self.meetings
        twin.moments = self.moments
        twin.keep_marks(self.marked)
        twin.stand(self.place)
        return twin
