"""Refusing: which meetings to refuse, so that a rule is kept whatever others have done unheard."""

from meetbooks.books import check_books
from meetbooks.checks import check_kind
from meetbooks.courses import Course, first_pair, is_let, joined_pair, kinds_without, pair_by_books, pair_steps
from meetbooks.errors import CannotBe, NotLasting
from meetbooks.pasts import Heard
from meetbooks.tours import Tour, bare_meetings, numbers_leading_to, row_to
from meetbooks.weavings import hand_out_of_reach, told_refusal

MOST_PAIRS = 200


def lasting_course(rule):
    """The course of a fair rule that is lasting; raises NotLasting for one that is not."""
    course = Course(rule)
    # Its states are numbered as the machine's: in both the least shortest rows that lead to them count.
    tour = Tour(0, lambda number: list(enumerate(course.rows[number])))
    for state, row in enumerate(course.rows):
        for kind, after in enumerate(row):
            if state not in course.good and after in course.good:
                raise NotLasting(row_to(tour, state) + (kind,))
    return course


def let_steps(course, pair, kinds):
    """(kind, pair behind it) of those of the kinds that can be there and that the rule lets."""
    return [(kind, after) for kind, after in pair_steps(course, pair, kinds) if is_let(course, after)]


def lets_kind(course, pair, kind):
    """Whether the rule lets the kind behind a weaving for which the pair stands."""
    return course.rows[pair[0]][kind] in course.good


def told_of_kind(course, pair, kind):
    """What may_meet tells of this kind when this is the pair of the joined view of its comers."""
    if not is_let(course, pair):
        return ("breaks", ())
    hidden = kinds_without(course.hall, course.hall.lots[kind])
    tour = Tour(pair, lambda one: let_steps(course, one, hidden))
    for number, state in enumerate(tour.states):
        if not lets_kind(course, state, kind):
            return ("breaks", bare_meetings(row_to(tour, number)))
    return ("may",)


def may_meet(rule, weaving, kind):
    """("may",) if the meeting keeps the rule whatever was done unheard, otherwise ("breaks", row)."""
    course = lasting_course(rule)
    hall = rule.hall
    heard = Heard(hall, weaving)
    check_kind(hall, kind)
    told = told_refusal(hall, heard.holders, kind)
    if told is not None:
        raise CannotBe(told)
    return told_of_kind(course, joined_pair(course, weaving, heard, hall.kinds[kind][1]), kind)


def may_by_books(rule, kind, books):
    """What may_meet tells of the weaving behind which these are the books of the comers."""
    course = lasting_course(rule)
    hall = rule.hall
    check_kind(hall, kind)
    many = len(hall.kinds[kind][1])
    check_books(books, many, many)
    pair = pair_by_books(rule, books)
    hand = hand_out_of_reach(hall, pair[1], kind)
    if hand is not None:
        raise CannotBe(("right", hand))
    return told_of_kind(course, pair, kind)


def needless_number(course, tour, kind):
    """The number of the first pair at which the kind can be and is let, but not behind some hidden row; or None."""
    hidden = kinds_without(course.hall, course.hall.lots[kind])
    rows = [[(other, after) for other, after in row if other in hidden] for row in tour.rows]
    is_kept = [lets_kind(course, pair, kind) for pair in tour.states]
    is_doubtful = numbers_leading_to(rows, [number for number, kept in enumerate(is_kept) if not kept])
    for number, pair in enumerate(tour.states):
        if kind in course.behind[pair[1]] and is_kept[number] and is_doubtful[number]:
            return number
    return None


def needless_refusal(rule):
    """("refuses", weaving, kind) where a meeting is refused that would be let, ("never",) if there is none."""
    course = lasting_course(rule)
    pair = first_pair(course)
    if not is_let(course, pair):
        return ("never",)
    tour = Tour(pair, lambda one: let_steps(course, one, course.kinds), MOST_PAIRS)
    for kind in course.kinds:
        # A kind that is let behind a hidden row is let without it, too: the rule is fair and lasting.
        number = needless_number(course, tour, kind)
        if number is not None:
            return ("refuses", bare_meetings(row_to(tour, number)), kind)
    return ("never",)
