"""Knowing: what hands surely know of a rule, given all that others may do unheard."""

from meetbooks.books import check_books
from meetbooks.checks import check_hands, check_still
from meetbooks.courses import (
    Course, check_here, first_pair, is_let, joined_pair, kinds_without, pair_by_books, pair_steps, pair_within)
from meetbooks.halls import HERE, standing_told
from meetbooks.pasts import Heard
from meetbooks.tours import Tour, bare_meetings, numbers_leading_to, row_to
from meetbooks.weavings import holders_behind


def told_from(course, pair, kinds):
    """("surely", let, closed) or ("open", one, other) of all that comes from the pair by these kinds."""
    tour = Tour(pair, lambda state: pair_steps(course, state, kinds))
    let = [is_let(course, state) for state in tour.states]
    if True in let and False in let:
        one, other = [bare_meetings(row_to(tour, let.index(asked))) for asked in (True, False)]
        return ("open", one, other)
    closed = sorted([(state, standing_told(holders)) for state, holders in tour.states])
    return ("surely", let[0], tuple(closed))


def knows(rule, weaving, hands):
    """Whether all weavings that are alike to these hands are let, or none, or rows that tell otherwise."""
    course = Course(rule)
    heard = Heard(rule.hall, weaving)
    check_here(rule.hall, hands, heard.holders)
    return told_from(course, joined_pair(course, weaving, heard, hands), kinds_without(rule.hall, hands))


def knows_by(rule, hands, books):
    """What knows tells of the weaving behind which these are the books of these hands."""
    course = Course(rule)
    check_hands(rule.hall, hands)
    check_books(books, len(hands), len(hands))
    return told_from(course, pair_by_books(rule, books), kinds_without(rule.hall, hands))


def settled(rule, weaving):
    """As knows tells, of all weavings that go on from this one."""
    course = Course(rule)
    heard = Heard(rule.hall, weaving)
    reach = [len(row) for row in heard.rows]
    return told_from(course, pair_within(course, weaving, heard, reach), course.kinds)


def common_word(rule, weaving, hands):
    """As knows tells, of what each of hands knows, and knows that the others know, and so on to any depth."""
    course = Course(rule)
    heard = Heard(rule.hall, weaving)
    check_here(rule.hall, hands, heard.holders)
    reach = (0,) * len(heard.rows)
    for number, lot in enumerate(heard.lots):
        if holds_all(lot, hands):
            reach = heard.pasts[number]
    kinds = [kind for kind, lot in enumerate(rule.hall.lots) if not holds_all(lot, hands)]
    return told_from(course, pair_within(course, weaving, heard, reach), kinds)


def holds_all(lot, hands):
    return all([hand in lot for hand in hands])


def pairs_tour(course):
    """The tour through the pairs of all weavings."""
    return Tour(first_pair(course), lambda pair: pair_steps(course, pair, course.kinds))


def sure_pairs(course, tour, hand):
    """For each pair whether the hand is sure of the rule when this is the pair of its view."""
    lots = course.hall.lots
    rows = [[(kind, after) for kind, after in row if hand not in lots[kind]] for row in tour.rows]
    let = [number for number, pair in enumerate(tour.states) if is_let(course, pair)]
    not_let = [number for number, pair in enumerate(tour.states) if not is_let(course, pair)]
    can_be_let = numbers_leading_to(rows, let)
    can_break = numbers_leading_to(rows, not_let)
    return [not (can_be_let[number] and can_break[number]) for number in range(len(rows))]


def comes_to_know(rule, weaving):
    """The ascending (number, hand) of all meetings by which a hand of the lot becomes sure."""
    course = Course(rule)
    hall = rule.hall
    heard = Heard(hall, weaving)
    tour = pairs_tour(course)
    numbers = {pair: number for number, pair in enumerate(tour.states)}
    sure = [sure_pairs(course, tour, hand) for hand in range(len(hall.hands))]
    holders = hall.first_holders
    knew = [holders[hand] == HERE and sure[hand][0] for hand in range(len(hall.hands))]
    found = []
    for number, meeting in enumerate(weaving):
        holders = holders_behind(hall, holders, meeting[0])
        view = numbers[pair_within(course, weaving, heard, heard.pasts[number])]
        for hand in heard.lots[number]:
            knows_now = holders[hand] == HERE and sure[hand][view]
            if knows_now and not knew[hand]:
                found.append((number, hand))
            knew[hand] = knows_now
    return tuple(found)


def rows_heard(weaving, heard, hand):
    """The rows of all hands in the view of this hand."""
    rows = []
    for row, many in zip(heard.rows, heard.views[hand]):
        rows.append([weaving[number] for number in row[:many]])
    return rows


def are_alike(hall, one, other, hands):
    """("alike",), or ("parts", hand) with the first of hands whose views are not the same story in both weavings."""
    mine = Heard(hall, one)
    its = Heard(hall, other)
    check_here(hall, hands, mine.holders)
    check_here(hall, hands, its.holders)
    for hand in hands:
        if rows_heard(one, mine, hand) != rows_heard(other, its, hand):
            return ("parts", hand)
    return ("alike",)


def turning_places(course, tour):
    """For each kind that tells let weavings from others, the number of the first state at which it does."""
    places = {}
    for number, row in enumerate(tour.rows):
        for kind, after in row:
            if is_let(course, tour.states[number]) != is_let(course, tour.states[after]):
                places.setdefault(kind, number)
    return places


def untold_step(hall, places, lot):
    """The least (number, kind) of places of a kind without the lot; None if the lot tells."""
    return min([(places[kind], kind) for kind in kinds_without(hall, lot) if kind in places], default=None)


def lots_of(hands):
    """All tuples of these hands, by how many, then as tuples."""
    lots = [()]
    for hand in hands:
        lots = lots + [(*lot, hand) for lot in lots]
    return [lot for _, lot in sorted([(len(lot), lot) for lot in lots])]


def tellers(rule):
    """(least, others): the least lots of hands that tell, the greatest that do not and what they cannot tell."""
    course = Course(rule)
    hall = rule.hall
    check_still(hall)
    here = [hand for hand, holder in enumerate(hall.first_holders) if holder == HERE]
    tour = pairs_tour(course)
    places = turning_places(course, tour)
    lots = lots_of(here)
    steps = {lot: untold_step(hall, places, lot) for lot in lots}
    least = []
    others = []
    for lot in lots:
        if steps[lot] is None:
            if all([steps[tuple([hand for hand in lot if hand != one])] is not None for one in lot]):
                least.append(lot)
        elif all([steps[tuple(sorted([*lot, one]))] is None for one in here if one not in lot]):
            number, kind = steps[lot]
            others.append((lot, bare_meetings(row_to(tour, number)), kind))
    return tuple(least), tuple(others)
