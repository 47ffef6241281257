"""Counting stories: how many there are, which one has which number, how many weavings one has.

Both machines here have a row for each state: the pairs (kind, state behind it) of all kinds
that can be there, ascending; state 0 is the first one.
"""

from meetbooks.checks import check_number, check_still
from meetbooks.errors import TooMany
from meetbooks.halls import HERE
from meetbooks.stories import cuts_tour, least_woven, rows_told
from meetbooks.tours import Tour
from meetbooks.weavings import holders_of, share_no_hand, steps_from

MOST_MEETINGS = 60
MOST_STANDINGS = 30


def standing_machine(hall):
    """The machine of all weavings, a state for each standing that can come; raises TooMany(30)."""
    return Tour(hall.first_holders, lambda holders: steps_from(hall, holders), MOST_STANDINGS).rows


def stranger_table(hall):
    """For each kind the kinds that are strangers to it, ascending."""
    table = []
    for kind in range(len(hall)):
        table.append([other for other in range(len(hall)) if share_no_hand(hall, kind, other)])
    return table


def barred_behind(strangers, barred, kind):
    """What may not come behind this kind in a least weaving, where barred could not come ahead of it.

    A kind would have to stand further ahead if it is a stranger to all from some greater kind on.
    """
    return tuple([other for other in strangers if other < kind or other in barred])


def story_machine(hall):
    """The machine of the least weavings of stories; raises TooMany(30)."""
    standings = standing_machine(hall)
    strangers = stranger_table(hall)

    def steps(state):
        standing, barred = state
        found = []
        for kind, after in standings[standing]:
            if kind not in barred:
                found.append((kind, (after, barred_behind(strangers[kind], barred, kind))))
        return found

    return Tour((0, ()), steps).rows


def ways_ahead(machine, many):
    """For each number of meetings from 0 to many, from each state on, how many rows the machine has."""
    ways = [[1] * len(machine)]
    for _ in range(many):
        last = ways[-1]
        ways.append([sum([last[step[1]] for step in row]) for row in machine])
    return ways


def check_many(many):
    """Raise BadNumber for what is not an integer from 0 to 60."""
    check_number(many, MOST_MEETINGS + 1)


def story_count(hall, many):
    """How many stories have just so many meetings."""
    check_many(many)
    return ways_ahead(story_machine(hall), many)[many][0]


def weaving_count(hall, many):
    """How many weavings have just so many meetings."""
    check_many(many)
    return ways_ahead(standing_machine(hall), many)[many][0]


def stranger_sets(hall):
    """How many sets of 0, 1, 2, .. kinds there are that are strangers to one another and can all be."""
    check_still(hall)
    strangers = stranger_table(hall)
    able = [kind for kind in range(len(hall)) if all([hall.first_holders[hand] == HERE for hand in hall.lots[kind]])]
    sets = [[]]
    many = []
    while sets:
        many.append(len(sets))
        sets = [[*some, kind] for some in sets for kind in able
                if some[-1:] < [kind] and all([kind in strangers[other] for other in some])]
    return tuple(many)


def stranger_series(hall, many):
    """The first many numbers of the power series that belongs to stranger_sets."""
    sizes = stranger_sets(hall)
    check_many(many)
    series = []
    for number in range(many):
        further = 1 if number == 0 else 0
        for size in range(1, min(number + 1, len(sizes))):
            share = sizes[size] * series[number - size]
            further = further + share if size & 1 else further - share
        series.append(further)
    return tuple(series)


def nth_step(row, ways, number):
    """(step, left): the step of the row by which the way with this number goes on, and its number behind it."""
    left = number
    place = 0
    while left >= ways[row[place][1]]:
        left -= ways[row[place][1]]
        place += 1
    return row[place], left


def nth_story(hall, many, number):
    """The least weaving of the story with this number among those of so many meetings."""
    check_many(many)
    machine = story_machine(hall)
    ways = ways_ahead(machine, many)
    check_number(number, ways[many][0])
    state = 0
    left = number
    weaving = []
    for further in reversed(range(many)):
        step, left = nth_step(machine[state], ways[further], left)
        weaving.append((step[0], 0))
        state = step[1]
    return tuple(weaving)


def story_number(hall, weaving):
    """The number of the weaving's story among those of as many meetings."""
    holders_of(hall, weaving)
    if len(weaving) > MOST_MEETINGS:
        raise TooMany(MOST_MEETINGS)
    machine = story_machine(hall)
    ways = ways_ahead(machine, len(weaving))
    bare = tuple([(meeting[0], 0) for meeting in weaving])
    state = 0
    number = 0
    further = len(weaving)
    for meeting in least_woven(hall, rows_told(hall, bare)):
        further -= 1
        number += sum([ways[further][step[1]] for step in machine[state] if step[0] < meeting[0]])
        state = dict(machine[state])[meeting[0]]
    return number


def weavings_of(hall, weaving):
    """How many weavings the story of the weaving has."""
    holders_of(hall, weaving)
    tour = cuts_tour(hall, rows_told(hall, weaving))
    ways = [0] * len(tour.states)
    ways[0] = 1
    for number, row in enumerate(tour.rows):
        for _, after in row:
            ways[after] += ways[number]
    # The last cut is that of all meetings: no other one has as many.
    return ways[-1]
