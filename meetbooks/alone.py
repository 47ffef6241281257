"""Alone: what hands keep that hear nothing, each of its own row of kinds."""

from meetbooks.checks import are_below, check_hand, check_still
from meetbooks.courses import Course
from meetbooks.errors import BadKinds
from meetbooks.machines import least_machine
from meetbooks.tours import Tour, row_to

MOST_SETS = 40
MOST_TUPLES = 1000


class OwnMachine:
    """The least machine that lets just the own rows of a hand that are let; raises TooMany(40)."""

    def __init__(self, course, able, hand):
        lots = course.hall.lots
        self.kinds = tuple([kind for kind, lot in enumerate(lots) if hand in lot])
        others = [kind for kind in able if kind not in self.kinds]
        tour = own_tour(course, others, [kind for kind in able if kind in self.kinds])
        # Behind a kind that can never be no row is let: one more state, from which nothing leads away.
        dead = len(tour.states)
        rows = []
        for row in tour.rows:
            steps = dict(row)
            rows.append([steps.get(kind, dead) for kind in self.kinds])
        rows.append([dead] * len(self.kinds))
        good = {number: True for number, states in enumerate(tour.states) if any_let(course, states)}
        self.rows, self.good = least_machine(rows, good, len(rows))


def able_kinds(course):
    """The ascending numbers of the kinds that can be in the still hall."""
    return list(course.behind[course.hall.first_holders])


def any_let(course, states):
    return any([state in course.good for state in states])


def spread(course, states, kinds):
    """The ascending tuple of all states that come from these by these kinds."""
    found = sorted(set(states))
    queue = list(found)
    while queue:
        row = course.rows[queue.pop()]
        for kind in kinds:
            if row[kind] not in found:
                found.append(row[kind])
                queue.append(row[kind])
    return tuple(sorted(found))


def own_tour(course, others, own):
    """The tour through the sets of states to which rows with the same own row lead; raises TooMany(40)."""
    def steps(states):
        return [(kind, spread(course, [course.rows[state][kind] for state in states], others)) for kind in own]

    return Tour(spread(course, [0], others), steps, MOST_SETS)


def still_course(rule):
    """The course of a fair rule of a still hall."""
    course = Course(rule)
    check_still(rule.hall)
    return course


def own_machines(course):
    """For each hand its own machine."""
    able = able_kinds(course)
    return [OwnMachine(course, able, hand) for hand in range(len(course.hall.hands))]


def own_state_behind(machine, state, kind):
    """The state of a hand's own machine behind a kind, which may be one without the hand."""
    return machine.rows[state][machine.kinds.index(kind)] if kind in machine.kinds else state


def own_rows(rule, hand):
    """(kinds, rows, good): the kinds of the hand, the least machine that lets its own rows that are let."""
    course = still_course(rule)
    check_hand(rule.hall, hand)
    machine = OwnMachine(course, able_kinds(course), hand)
    return machine.kinds, machine.rows, machine.good


def own_lets(rule, kinds):
    """Whether for each hand its own row in the row of these kinds is let."""
    course = still_course(rule)
    if not are_below(kinds, len(rule.hall)):
        raise BadKinds(kinds)
    for machine in own_machines(course):
        state = 0
        for kind in kinds:
            state = own_state_behind(machine, state, kind)
        if state not in machine.good:
            return False
    return True


def implied_row(rule):
    """("implied", row) with the least shortest row whose own rows are let and that is not; ("none",) without one."""
    course = still_course(rule)
    machines = own_machines(course)
    able = able_kinds(course)

    def steps(states):
        found = []
        for kind in able:
            own = [own_state_behind(machine, state, kind) for machine, state in zip(machines, states)]
            found.append((kind, tuple(own + [course.rows[states[-1]][kind]])))
        return found

    tour = Tour((0,) * (len(machines) + 1), steps, MOST_TUPLES)
    for number, told in enumerate(tour.states):
        own_let = all([state in machine.good for machine, state in zip(machines, told)])
        if own_let and told[-1] not in course.good:
            return ("implied", row_to(tour, number))
    return ("none",)
