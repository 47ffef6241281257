"""Rules: which rows of kinds are let, read from texts, and the least machines that let the same."""

from meetbooks.checks import are_below
from meetbooks.errors import BadKinds, OtherHall, TooMany
from meetbooks.machines import least_machine
from meetbooks.plans import START, Plan, bits_behind, lets_bits, lets_row
from meetbooks.ruletexts import parts_of
from meetbooks.tours import Tour, row_to

MOST_STATES = 40


def machine_told(plan):
    """The least machine that lets what the plan lets; None if it has more than forty states."""
    kinds = list(range(len(plan.places)))
    tour = Tour(START, lambda bits: [(kind, bits_behind(plan, bits, kind)) for kind in kinds])
    rows = [[after for _, after in row] for row in tour.rows]
    good = {state: True for state, bits in enumerate(tour.states) if lets_bits(plan.tree, bits)}
    return least_machine(rows, good, MOST_STATES)


class Rule:
    """Which rows of kinds of a hall are let, read from a text."""

    def __init__(self, hall, text):
        self.plan = Plan(len(hall), parts_of(hall, text))
        self.hall = hall
        self.text = text
        # Nearly all that is asked of a rule needs it, so it is made once; None if it is too large.
        self.machine = machine_told(self.plan)

    def __contains__(self, value):
        return are_below(value, len(self.hall)) and lets_row(self.plan, value)

    def __eq__(self, other):
        return isinstance(other, Rule) and self.hall == other.hall and self.text == other.text


def rule_lets(rule, kinds):
    """Whether the rule lets the row of these kinds."""
    if not are_below(kinds, len(rule.hall)):
        raise BadKinds(kinds)
    return lets_row(rule.plan, kinds)


def machine_of(rule):
    """(rows, good) of the machine with the fewest states that lets just what the rule lets."""
    if rule.machine is None:
        raise TooMany(MOST_STATES)
    return rule.machine


def same_rule(rule, other):
    """("same",), or ("parts", row) with the least shortest row that just one of both rules lets."""
    if not isinstance(other, Rule) or rule.hall != other.hall:
        raise OtherHall(other)
    rows, good = machine_of(rule)
    its_rows, its_good = machine_of(other)

    def steps(pair):
        return [(kind, (rows[pair[0]][kind], its_rows[pair[1]][kind])) for kind in range(len(rule.hall))]

    tour = Tour((0, 0), steps)
    for number, (mine, its) in enumerate(tour.states):
        if (mine in good) != (its in its_good):
            return ("parts", row_to(tour, number))
    return ("same",)
