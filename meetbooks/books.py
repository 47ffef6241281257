"""Books: what the hands keep, what meetings make of it, what books tell alone and together.

What stands in a book, and why it can be of bounded size, is told in pages.
"""

from meetbooks.checks import are_below, check_hand, is_ascending, is_meeting
from meetbooks.errors import BadBook, BadBooks, BadHands, BadMeeting, NoRight
from meetbooks.halls import HERE, standing_told
from meetbooks.pages import Joint, Page, bits_among, bits_of, fresh_label, is_later, joint_worth
from meetbooks.values import check_fits
from meetbooks.weavings import hand_out_of_reach, holders_behind
from meetbooks.worths import combined_worth, meeting_worth, nothing_worth

MOST_BOOKS = 5


def check_book(book):
    """Raise BadBook for what is not a tuple."""
    if not isinstance(book, tuple):
        raise BadBook(book)


def check_books(books, least, most):
    """Raise BadBooks for what is not a tuple of least to most tuples."""
    if not isinstance(books, tuple) or not least <= len(books) <= most:
        raise BadBooks(books)
    if not all([isinstance(book, tuple) for book in books]):
        raise BadBooks(books)


def first_books(scale):
    """For each hand its book ahead of all meetings, or None if it is away at first."""
    check_fits(scale)
    holders = scale.hall.first_holders
    hands = range(len(holders))
    nothing = nothing_worth(scale)
    newest = tuple([None for hand in hands])
    seconds = tuple([newest for hand in hands])
    thirds = tuple([seconds for hand in hands])
    beyond = (nothing,) * (1 << len(holders))
    known = (nothing,) * len(holders)
    return tuple([(hand, holders, thirds, beyond, known) if holders[hand] == HERE else None for hand in hands])


def values_beyond(scale, joint, lot, last):
    """What the new books tell as beyond, behind a meeting of this lot with the value last."""
    nothing = nothing_worth(scale)
    hands = range(len(scale.hall.hands))
    told = []
    for bits in range(1 << len(scale.hall.hands)):
        without = [hand for hand in hands if bits >> hand & 1]
        # All that was heard is in the past of the meeting, which is the newest one of its lot.
        if any([hand in lot for hand in without]):
            told.append(nothing)
        else:
            told.append(combined_worth(scale, joint_worth(scale, joint, without), last))
    return tuple(told)


def told_behind(scale, joint, meeting):
    """What the new books tell behind a meeting of those whose books were joined: all but whose books they are."""
    hall = scale.hall
    lot = hall.lots[meeting[0]]
    label = fresh_label(joint, lot)
    latest = list(enumerate(joint.latest))
    newest = tuple([label if hand in lot else page.newest[hand] for hand, page in latest])
    seconds = tuple([newest if hand in lot else page.seconds[hand] for hand, page in latest])
    thirds = tuple([seconds if hand in lot else page.thirds[hand] for hand, page in latest])
    beyond = values_beyond(scale, joint, lot, meeting_worth(scale, meeting))
    known = tuple([beyond[0] if hand in lot else page.known[hand] for hand, page in latest])
    return holders_behind(hall, joint.holders, meeting[0]), thirds, beyond, known


def meet(scale, meeting, books):
    """The books of the comers behind their meeting, and the book of the hand that it begins."""
    check_fits(scale)
    hall = scale.hall
    if not is_meeting(hall, meeting):
        raise BadMeeting(meeting)
    comers, begins, ends, _ = hall.kinds[meeting[0]][1:]
    check_books(books, len(comers), len(comers))
    joint = Joint(books)
    hand = hand_out_of_reach(hall, joint.holders, meeting[0])
    if hand is not None:
        raise NoRight(hand)
    told = told_behind(scale, joint, meeting)
    new = [None if comer == ends else (comer, *told) for comer in comers]
    if begins is not None:
        new.append((begins, *told))
    return tuple(new)


def books_behind(scale, books, meeting):
    """The books of all hands, None for those away, behind one more meeting, which can be."""
    comers, begins = scale.hall.kinds[meeting[0]][1:3]
    new = meet(scale, meeting, tuple([books[comer] for comer in comers]))
    after = list(books)
    for hand, book in zip(comers, new):
        after[hand] = book
    if begins is not None:
        after[begins] = new[-1]
    return tuple(after)


def heard_value(scale, book):
    """The value of all that the hand of the book has heard."""
    check_fits(scale)
    check_book(book)
    return Page(book).beyond[0]


def value_beyond(scale, book, hands):
    """The value of what was heard without the pasts of the newest meetings of these hands."""
    check_fits(scale)
    check_book(book)
    if not are_below(hands, len(scale.hall.hands)) or not is_ascending(hands):
        raise BadHands(hands)
    return Page(book).beyond[bits_of(hands)]


def known_value(scale, book, hand):
    """The value of the past of the newest meeting of the hand that was heard of."""
    check_fits(scale)
    check_book(book)
    check_hand(scale.hall, hand)
    return Page(book).known[hand]


def value_anew(scale, one, other):
    """The value of what is heard in other and not in one."""
    check_fits(scale)
    check_book(one)
    check_book(other)
    page = Page(other)
    return page.beyond[bits_among(page.newest, Page(one).newest)]


def value_only(scale, book, others):
    """The value of what is heard in book and in none of the others."""
    check_fits(scale)
    check_book(book)
    check_books(others, 0, MOST_BOOKS)
    page = Page(book)
    elsewhere = []
    for other in others:
        elsewhere.extend(Page(other).newest)
    return page.beyond[bits_among(page.newest, elsewhere)]


def whole_value(scale, books):
    """The value of all that is heard in one of the books."""
    check_fits(scale)
    check_books(books, 1, MOST_BOOKS)
    return joint_worth(scale, Joint(books), ())


def later_news(scale, one, other, hand):
    """Whose newest meeting of the hand is later: "one", "other" or "same"."""
    check_fits(scale)
    check_book(one)
    check_book(other)
    check_hand(scale.hall, hand)
    mine = Page(one)
    its = Page(other)
    if mine.newest[hand] == its.newest[hand]:
        return "same"
    return "one" if is_later(mine, its, hand) else "other"


def heard_standing(scale, book):
    """The standing behind all that the hand of the book has heard, and nothing else."""
    check_fits(scale)
    check_book(book)
    return standing_told(Page(book).holders)


def most_parts(scale):
    """How many parts the table allows a value of the scale."""
    hands = len(scale.hall.hands)
    if scale.word == "both":
        return 1 + sum([most_parts(part) for part in scale.scales])
    if scale.word == "sums":
        return 1
    if scale.word == "costs":
        return 1 + 3 * scale.size
    if scale.word == "turns":
        return 3
    if scale.word == "waits":
        return 1 + hands + hands * hands
    if scale.word == "sets":
        names = []
        for row in scale.rows:
            names.extend(row)
        return 1 + len(set(names))
    return 1 + scale.size


def book_bound(scale):
    """(parts, greatest): the bounds of books, of which the document tells."""
    check_fits(scale)
    hands = len(scale.hall.hands)
    sizes = [part.size for part in [scale, *scale.scales] if part.size is not None]
    parts = 40 * (1 << hands) * (1 + most_parts(scale)) + 40 * hands ** 3
    return parts, 10 * hands ** 3 + 100 + max(sizes, default=0)
