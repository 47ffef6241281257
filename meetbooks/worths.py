"""The table of values: for each first word of a scale what its values are and how they are combined.

Nothing here asks whether a scale fits.
"""

from meetbooks.checks import are_below, is_ascending, is_below, is_integer

ALWAYS_FIT = ("sums", "rows", "waits", "sets")


def nothing_worth(scale):
    """The empty value."""
    word = scale.word
    if word == "both":
        return tuple([nothing_worth(part) for part in scale.scales])
    if word == "sums":
        return 0
    if word == "rows":
        return (0,) * scale.size
    if word in ("states", "places"):
        return tuple(range(scale.size))
    if word == "costs":
        return tuple([(state, 0) for state in range(scale.size)])
    if word == "turns":
        return (1, 0)
    if word == "waits":
        return waits_of(scale, (), 0)
    return ()


def meeting_worth(scale, meeting):
    """The value of a meeting."""
    if scale.word == "both":
        return tuple([meeting_worth(part, meeting) for part in scale.scales])
    kind, load = meeting
    row = scale.rows[kind]
    if scale.word == "sums":
        return row[0] + row[1] * load
    if scale.word == "rows":
        return tuple([base + by * load for base, by in zip(row[:scale.size], row[scale.size:])])
    if scale.word == "costs":
        return tuple(zip(row[::2], row[1::2]))
    if scale.word == "waits":
        return waits_of(scale, scale.hall.lots[kind], row[0] + load)
    return row


def waits_of(scale, lot, time):
    """The waits of a meeting that keeps this lot for so long."""
    hands = range(len(scale.hall.hands))
    return tuple([tuple([wait_of(one, other, lot, time) for other in hands]) for one in hands])


def wait_of(one, other, lot, time):
    if one in lot and other in lot:
        return time
    return 0 if one == other else None


def combined_worth(scale, one, other):
    """What one and other, which are values of the scale, are combined to."""
    word = scale.word
    if word == "both":
        return tuple([combined_worth(part, mine, its) for part, mine, its in zip(scale.scales, one, other)])
    if word == "sums":
        return one + other
    if word == "rows":
        return tuple([mine + its for mine, its in zip(one, other)])
    if word in ("states", "places"):
        return tuple([other[state] for state in one])
    if word == "costs":
        return tuple([(other[state][0], cost + other[state][1]) for state, cost in one])
    if word == "turns":
        return (other[0] * one[0] % scale.size, (other[0] * one[1] + other[1]) % scale.size)
    if word == "waits":
        columns = list(zip(*other))
        return tuple([tuple([longest_wait(row, column) for column in columns]) for row in one])
    return tuple(sorted(set(one) | set(other)))


def longest_wait(row, column):
    """The greatest of all sums, place by place, where neither is None; None if there is no such place."""
    return max([mine + its for mine, its in zip(row, column) if mine is not None and its is not None], default=None)


def is_worth(scale, value):
    """Whether any value is a value of the scale by the table."""
    if scale.word == "sums":
        return is_integer(value)
    if not isinstance(value, tuple):
        return False
    if scale.word == "both":
        return len(value) == len(scale.scales) and all([is_worth(part, mine)
                                                        for part, mine in zip(scale.scales, value)])
    if scale.word == "rows":
        return len(value) == scale.size and all([is_integer(part) for part in value])
    if scale.word == "costs":
        return len(value) == scale.size and all([is_priced_state(scale, part) for part in value])
    if scale.word == "waits":
        hands = len(scale.hall.hands)
        return len(value) == hands and all([is_row_of_waits(part, hands) for part in value])
    if scale.word == "sets":
        return all([is_named(scale, part) for part in value]) and is_ascending(value)
    if not are_below(value, scale.size):
        return False
    if scale.word == "places":
        return sorted(value) == list(range(scale.size))
    return len(value) == (2 if scale.word == "turns" else scale.size)


def is_priced_state(scale, value):
    """Whether value is a pair of a state and a cost."""
    return isinstance(value, tuple) and len(value) == 2 and is_below(value[0], scale.size) and is_integer(value[1])


def is_row_of_waits(value, many):
    if not isinstance(value, tuple) or len(value) != many:
        return False
    return all([part is None or is_integer(part) for part in value])


def is_named(scale, value):
    """Whether value is a name that stands behind a kind's name in the text of a scale of sets."""
    return isinstance(value, str) and any([value in row for row in scale.rows])


def do_commute(scale, one, other):
    """Whether the values of meetings of these two kinds, which are strangers, commute, whatever the loads."""
    if scale.word == "both":
        return all([do_commute(part, one, other) for part in scale.scales])
    if scale.word in ALWAYS_FIT:
        return True
    mine = meeting_worth(scale, (one, 0))
    its = meeting_worth(scale, (other, 0))
    return combined_worth(scale, mine, its) == combined_worth(scale, its, mine)


def row_worth(scale, meetings):
    """The values of these meetings combined in their sequence."""
    value = nothing_worth(scale)
    for meeting in meetings:
        value = combined_worth(scale, value, meeting_worth(scale, meeting))
    return value
