"""Machines: rows, for each state the states to which the kinds lead, and good, the states behind which a row is let.

Each state is led to by some row from state 0.
"""

from meetbooks.tours import Tour


def classes_of(rows, good, most):
    """For each state the number of its class: from states of one class the same is let. None if more than most come."""
    classes = [1 if state in good else 0 for state in range(len(rows))]
    many = len(set(classes))
    while many <= most:
        numbers = {}
        finer = []
        for state, row in enumerate(rows):
            told = tuple([classes[state]] + [classes[after] for after in row])
            finer.append(numbers.setdefault(told, len(numbers)))
        if len(numbers) == many:
            return classes
        classes = finer
        many = len(numbers)
    return None


def least_machine(rows, good, most):
    """(rows, good) of the machine with the fewest states that lets the same; None if it has more than most states.

    Its states are numbered as the least shortest rows that lead to them.
    """
    classes = classes_of(rows, good, most)
    if classes is None:
        return None
    # For each class one of its states.
    members = {}
    for state, of_class in enumerate(classes):
        members[of_class] = state

    def steps(number):
        return [(kind, classes[after]) for kind, after in enumerate(rows[members[number]])]

    tour = Tour(classes[0], steps)
    least = tuple([tuple([after for _, after in row]) for row in tour.rows])
    return least, tuple([state for state, number in enumerate(tour.states) if members[number] in good])
