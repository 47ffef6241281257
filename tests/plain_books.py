"""Books made along weavings, and a plain reckoning of what they have to tell, from the views of point 6."""

from meetbooks.books import first_books, meet
from meetbooks.halls import Hall
from meetbooks.scales import Scale
from tests.plain import Plain
from tests.plain_values import Table


class Play:
    """A weaving that grows, with the books of all hands and, as sets of bits, the views of all names."""

    def __init__(self, hall_text, scale_text):
        self.plain = Plain(hall_text)
        self.table = Table(hall_text, scale_text)
        self.scale = Scale(Hall(hall_text), scale_text)
        self.hands = range(len(self.plain.hands))
        self.state = self.plain.start()
        self.books = list(first_books(self.scale))
        self.weaving = []
        self.pasts = []
        self.views = [0 for _ in self.hands]
        self.rows = [[] for _ in self.hands]

    def here(self):
        return [hand for hand in self.hands if self.plain.hands[hand] in self.state[0]]

    def comers(self, kind):
        return [self.plain.hands.index(name) for name in self.plain.kinds[kind][0]]

    def meet(self, kind, load):
        """One more meeting, which can be; returns the books as they were ahead of it."""
        comers, begins, ends, _ = self.plain.kinds[kind]
        elder = list(self.books)
        given = tuple(self.books[hand] for hand in self.comers(kind))
        new = meet(self.scale, (kind, load), given)
        assert isinstance(new, tuple) and len(new) == len(comers) + (begins is not None)
        for hand, book in zip(self.comers(kind), new):
            self.books[hand] = book
            assert (book is None) == (self.plain.hands[hand] == ends)
        if begins is not None:
            self.books[self.plain.hands.index(begins)] = new[-1]
        number = len(self.weaving)
        self.weaving.append((kind, load))
        self.state = self.plain.behind(self.state, kind)
        past = 1 << number
        for hand in self.plain.lot(kind):
            past |= self.views[hand]
        self.pasts.append(past)
        for hand in self.plain.lot(kind):
            self.views[hand] = past
            self.rows[hand].append(number)
        return elder

    def news(self, bits, hand):
        """The number of the newest meeting of the hand among these, or None."""
        for number in reversed(self.rows[hand]):
            if bits >> number & 1:
                return number
        return None

    def past(self, bits, hand):
        """The past of the newest meeting of the hand among these."""
        number = self.news(bits, hand)
        return 0 if number is None else self.pasts[number]

    def without_pasts(self, bits, hands):
        """These meetings without the pasts of the newest meetings of the hands among them."""
        left = bits
        for hand in hands:
            left &= ~self.past(bits, hand)
        return left

    def value(self, bits):
        """The value of these meetings, in the sequence of the weaving."""
        return self.table.row(meeting for number, meeting in enumerate(self.weaving) if bits >> number & 1)

    def standing(self, bits):
        """The standing behind these meetings alone."""
        state = self.plain.start()
        for number, (kind, _) in enumerate(self.weaving):
            if bits >> number & 1:
                assert self.plain.told_refusal(state, kind) is None
                state = self.plain.behind(state, kind)
        return self.plain.standing(state)

    def later(self, one, other, hand):
        """Whose newest meeting of the hand is later, of two sets of meetings."""
        mine, its = self.news(one, hand), self.news(other, hand)
        if mine == its:
            return "same"
        return "one" if its is None or (mine is not None and mine > its) else "other"


def books_along(scale, weaving):
    """The newest books of all hands behind the weaving, None for those that are away."""
    books = list(first_books(scale))
    for kind, load in weaving:
        _, comers, begins, _, _ = scale.hall.kinds[kind]
        new = meet(scale, (kind, load), tuple(books[comer] for comer in comers))
        for hand, book in zip(comers, new):
            books[hand] = book
        if begins is not None:
            books[begins] = new[-1]
    return tuple(books)


def odd_kind(play, numbers, silent=()):
    """Some kind that can be next, one without the silent hands if there is one; None if there is none."""
    kinds = play.plain.next_kinds(play.state)
    quiet = [kind for kind in kinds if not set(play.plain.lot(kind)) & set(silent)]
    return numbers.one_of(quiet or kinds) if kinds else None


def part_by_part(value):
    """An equal value that is made anew at each depth."""
    if isinstance(value, tuple):
        return tuple([part_by_part(part) for part in value])
    if isinstance(value, str):
        return "".join(list(value))
    return value


def parts_in(value):
    """How many parts a value or a book has."""
    return 1 + (sum(parts_in(part) for part in value) if isinstance(value, tuple) else 0)


def leaves_in(value):
    """All parts that are no tuples."""
    if not isinstance(value, tuple):
        return [value]
    return [leaf for part in value for leaf in leaves_in(part)]
