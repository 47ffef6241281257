"""Going through all states that come from a first one, nearest first."""

from meetbooks.errors import TooMany


class Tour:
    """All states that come from a first one, numbered as the least shortest rows of kinds that lead to them.

    steps is a function that tells, for a state, the pairs (kind, state behind it), ascending by kinds; where loads
    count there are meetings in the place of kinds.
    """

    def __init__(self, start, steps, most=None):
        """Raise TooMany(most) if more states come; most is None if any number of them may."""
        self.states = [start]
        # For each state the number of the state ahead of it and the kind that led from there.
        self.came = [None]
        # For each state the pairs (kind, number of the state behind it).
        self.rows = []
        numbers = {start: 0}
        while len(self.rows) < len(self.states):
            here = len(self.rows)
            ahead = steps(self.states[here])
            row = []
            for kind, after in ahead:
                if after not in numbers:
                    numbers[after] = len(self.states)
                    self.states.append(after)
                    self.came.append((here, kind))
                row.append((kind, numbers[after]))
            if most is not None and len(self.states) > most:
                raise TooMany(most)
            self.rows.append(row)


def row_to(tour, number):
    """The least shortest row of kinds that leads to the state with this number."""
    row = []
    step = tour.came[number]
    while step is not None:
        row.append(step[1])
        step = tour.came[step[0]]
    return tuple(reversed(row))


def bare_meetings(kinds):
    """Meetings of these kinds with the load 0."""
    return tuple([(kind, 0) for kind in kinds])


def numbers_leading_to(rows, goals):
    """Of states with these rows of (kind, number behind it): for each whether one of goals comes from it."""
    ahead = [[] for row in rows]
    for number, row in enumerate(rows):
        for _, after in row:
            ahead[after].append(number)
    found = [False] * len(rows)
    queue = list(goals)
    while queue:
        number = queue.pop()
        if not found[number]:
            found[number] = True
            queue.extend(ahead[number])
    return found
