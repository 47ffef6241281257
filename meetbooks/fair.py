"""Fairness: rules that do not depend on the order of strangers, and their scales."""

from meetbooks.errors import NotFair
from meetbooks.rules import machine_of
from meetbooks.weavings import share_no_hand

# Stands for the kind that one of two rows owes while the exchange is under way; the rows owe nothing otherwise.
NOTHING = -1


def stranger_pairs(hall):
    """All (kind, stranger to it), the lesser one first, ascending."""
    kinds = range(len(hall))
    return [(one, other) for one in kinds for other in kinds if one < other and share_no_hand(hall, one, other)]


def is_fair(machine, pairs):
    """Whether exchanges lead to the same states; the machine is a least one, so that unlike states tell unlike."""
    rows = machine[0]
    for row in rows:
        if any([rows[row[one]][other] != rows[row[other]][one] for one, other in pairs]):
            return False
    return True


def pair_steps(rows, pairs, state):
    """(kind, state behind it) of two rows that are read together, the kind being the next one of the first row.

    A state is (state of the first row, state of the other row, what the first one owes). The
    states are alike until the first row has one of two strangers that are exchanged and owes
    the other one; the second row has both then.
    """
    mine, its, owed = state
    if owed != NOTHING:
        return [(owed, (rows[mine][owed], its, NOTHING))]
    steps = [(kind, (rows[mine][kind], rows[its][kind], NOTHING)) for kind in range(len(rows[0]))]
    if mine == its:
        for one, other in pairs:
            steps.append((one, (rows[mine][one], rows[rows[its][other]][one], other)))
    return steps


def unfair_row(machine, pairs):
    """The least shortest row of which other is told than of some greater row that is one exchange apart.

    None if there is no such row.
    """
    rows, good = machine
    seen = {}
    level = [((), (0, 0, NOTHING))]
    while level:
        further = []
        for row, state in sorted(level):
            if state in seen:
                continue
            seen[state] = True
            if state[2] == NOTHING and (state[0] in good) != (state[1] in good):
                return row
            for kind, after in pair_steps(rows, pairs, state):
                further.append(((*row, kind), after))
        level = further
    return None


def state_behind(rows, kinds):
    """The state to which a row of kinds leads."""
    state = 0
    for kind in kinds:
        state = rows[state][kind]
    return state


def least_other(machine, pairs, row):
    """The least of all greater rows that are one exchange apart from the row and told otherwise."""
    rows, good = machine
    is_let = state_behind(rows, row) in good
    # The further behind the exchange stands, the less is the greater row.
    for place in reversed(range(len(row) - 1)):
        other = row[:place] + (row[place + 1], row[place]) + row[place + 2:]
        if (row[place], row[place + 1]) in pairs and (state_behind(rows, other) in good) != is_let:
            return other
    return None


def fairness(rule):
    """("fair",), or ("unfair", one, other) with two rows one exchange apart of which the rule lets just one."""
    machine = machine_of(rule)
    pairs = stranger_pairs(rule.hall)
    if is_fair(machine, pairs):
        return ("fair",)
    row = unfair_row(machine, pairs)
    return ("unfair", row, least_other(machine, pairs, row))


def check_fair(rule):
    """Raise TooMany(40) for a rule that is too large, NotFair for one that is not fair."""
    told = fairness(rule)
    if told != ("fair",):
        raise NotFair(told)


def scale_of(rule):
    """The text of the scale of states that has the rule's machine."""
    check_fair(rule)
    rows = machine_of(rule)[0]
    lines = [f"states {len(rows)}"]
    for kind, told in enumerate(rule.hall.kinds):
        lines.append(" ".join([told[0]] + [str(row[kind]) for row in rows]))
    return "\n".join(lines)
