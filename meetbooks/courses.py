"""Rules along weavings: which pairs (state of the rule's machine, holders) come behind one another."""

from meetbooks.checks import check_hands
from meetbooks.errors import BadHands
from meetbooks.fair import check_fair, scale_of
from meetbooks.halls import HERE
from meetbooks.pages import Joint, joint_worth
from meetbooks.pasts import greatest_reach, numbers_within
from meetbooks.rules import machine_of
from meetbooks.scales import Scale
from meetbooks.tours import Tour
from meetbooks.weavings import steps_from


class Course:
    """A fair rule and all holders that can come in its hall."""

    def __init__(self, rule):
        check_fair(rule)
        hall = rule.hall
        self.hall = hall
        self.kinds = list(range(len(hall)))
        self.rows, self.good = machine_of(rule)
        tour = Tour(hall.first_holders, lambda one: steps_from(hall, one))
        # For all holders that can come, the holders behind each kind that can be there.
        self.behind = {}
        for number, holders in enumerate(tour.states):
            self.behind[holders] = {kind: tour.states[after] for kind, after in tour.rows[number]}


def first_pair(course):
    """The pair of the empty weaving."""
    return 0, course.hall.first_holders


def pair_behind(course, pair, kind):
    """The pair behind a meeting of this kind, which can be there."""
    return course.rows[pair[0]][kind], course.behind[pair[1]][kind]


def is_let(course, pair):
    """Whether the rule lets the weavings for which the pair stands."""
    return pair[0] in course.good


def pair_steps(course, pair, kinds):
    """(kind, pair behind it) of those of the kinds that can be there."""
    return [(kind, pair_behind(course, pair, kind)) for kind in kinds if kind in course.behind[pair[1]]]


def kinds_without(hall, hands):
    """The ascending numbers of the kinds whose lots hold none of these hands."""
    return [kind for kind, lot in enumerate(hall.lots) if not any([hand in lot for hand in hands])]


def pair_within(course, weaving, heard, reach):
    """The pair of the meetings of the weaving that are within this reach, which is that of a beginning."""
    pair = first_pair(course)
    for number in numbers_within(heard, reach):
        pair = pair_behind(course, pair, weaving[number][0])
    return pair


def joined_pair(course, weaving, heard, hands):
    """The pair of the joined view of these hands."""
    return pair_within(course, weaving, heard, greatest_reach([heard.views[hand] for hand in hands]))


def pair_by_books(rule, books):
    """The pair of the joined view of the hands whose books, with the rule's scale, these are."""
    joint = Joint(books)
    return joint_worth(Scale(rule.hall, scale_of(rule)), joint, ())[0], joint.holders


def check_here(hall, hands, holders):
    """Raise BadHands for what is not an ascending tuple of one or more hands that are here by these holders."""
    check_hands(hall, hands)
    if not all([holders[hand] == HERE for hand in hands]):
        raise BadHands(hands)
