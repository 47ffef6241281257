"""What stands in books, and what several books tell together.

A book is (hand, holders, thirds, beyond, known), all of it told of the view of the hand:

- holders: the holders (as in weavings) behind the view;
- thirds: labels of the newest meeting of each hand in the past of the newest meeting of each
  hand in the past of the newest meeting of each hand, None where there is no such meeting;
- beyond: for each set of hands (hand r as the bit 1 << r) the value of the view without the
  pasts of the newest meetings of these hands;
- known: for each hand the value of the past of its newest meeting.

What two views have in common are the pasts of some newest meetings of hands in the one, and
also in the other: if a meeting of both is not the last one of the hand whose view the one is,
and nothing that hangs on it is in both, then the next meeting of some hand of its lot is in
the one alone, so that it is the newest one of this hand in the other. The same holds for a
view and a past in another view. So books are joined by comparing the labels of newest meetings
(newest) and of the newest ones in their pasts (seconds), and nothing else.

Labels are used again, which is safe. A label tells the first hand of its meeting's lot. Let this
hand meet again: all its meetings are in the joined view of those who meet. Let one of them, e,
still be among the seconds of some book, as the newest one of a hand in the past of m. If m is in
the joined view, it is in the past of something that this view and that of the book have in
common; so m is among the seconds of the joined view, and e among its thirds. If m is not, e is
in the past of something that the joined view and the past of m have in common; so e is among the
seconds of the joined view. A label that is not among its thirds is in no book's seconds.
"""

from meetbooks.halls import HERE
from meetbooks.worths import combined_worth, nothing_worth


class Page:
    """A book laid open."""

    def __init__(self, book):
        hand, holders, thirds, beyond, known = book
        self.holders = holders
        self.thirds = thirds
        self.beyond = beyond
        self.known = known
        # The newest meeting of the hand itself has the whole view as its past.
        self.seconds = thirds[hand]
        self.newest = self.seconds[hand]


def bits_among(labels, others):
    """The hands, as bits, whose labels are among the others.

    It does not matter whether hands without meetings are among them: nothing is in their pasts.
    """
    bits = 0
    for hand, label in enumerate(labels):
        if label in others:
            bits |= 1 << hand
    return bits


def bits_of(hands):
    """The hands as bits."""
    return sum([1 << hand for hand in hands])


def is_heard(page, other, hand):
    """Whether page's newest meeting of the hand, which there is, is in the view of other."""
    for by, label in enumerate(page.newest):
        if label in other.newest and page.seconds[by][hand] == page.newest[hand]:
            return True
    return False


def is_later(page, other, hand):
    """Whether page's newest meeting of the hand is later than other's."""
    mine = page.newest[hand]
    its = other.newest[hand]
    if mine is None or mine == its:
        return False
    # The earlier one of two meetings of a hand is in both views.
    return its is None or not is_heard(page, other, hand)


class Joint:
    """Books laid open side by side."""

    def __init__(self, books):
        self.pages = [Page(book) for book in books]
        hands = range(len(self.pages[0].newest))
        # For each hand a page in which its newest meeting of all stands.
        self.latest = [latest_page(self.pages, hand) for hand in hands]
        self.newest = [page.newest[hand] for hand, page in enumerate(self.latest)]
        self.holders = tuple([joint_holder(self.pages, self.newest, hand) for hand in hands])


def latest_page(pages, hand):
    """The first page that no other page has a later newest meeting of the hand than."""
    latest = pages[0]
    for page in pages[1:]:
        if is_later(page, latest, hand):
            latest = page
    return latest


def joint_holder(pages, newest, hand):
    """Who has the right to begin the hand behind the joined view; HERE if nobody has."""
    for page in pages:
        holder = page.holders[hand]
        # This changes only in meetings of the keeper of the right; while the hand is here, it is its own keeper.
        keeper = hand if holder == HERE else holder
        if page.newest[keeper] == newest[keeper]:
            return holder
    return HERE


def joint_worth(scale, joint, hands):
    """The value of the joined view without the pasts of its newest meetings of these hands."""
    gone = []
    for hand in hands:
        gone.extend(joint.latest[hand].seconds[hand])
    value = nothing_worth(scale)
    for page in joint.pages:
        value = combined_worth(scale, value, page.beyond[bits_among(page.newest, gone)])
        gone.extend(page.newest)
    return value


def fresh_label(joint, lot):
    """A label for a meeting of this lot behind the joined view, by which no other meeting can be found any more."""
    taken = set()
    for hand, page in enumerate(joint.latest):
        for row in page.thirds[hand]:
            for label in row:
                taken.add(label)
    label = lot[0]
    while label in taken:
        label += len(joint.newest)
    return label
