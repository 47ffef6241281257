"""Cuts: moments of a story that somebody could have seen, and what the weavings of the story pass."""

from meetbooks.checks import are_below, check_number, is_ascending, is_below, is_integer
from meetbooks.errors import BadWishes
from meetbooks.pasts import Heard, greatest_reach, is_in_past, news_within, tops_within
from meetbooks.stories import cuts_tour, rows_told
from meetbooks.weavings import holders_of


def story_cuts(hall, weaving):
    """The tour through all cuts; raises BadWeaving, TooMany(10000)."""
    holders_of(hall, weaving)
    return cuts_tour(hall, rows_told(hall, weaving))


def greatest_cut(lots, most):
    """The greatest cut that has, of each hand, at most so many meetings."""
    ends = list(most)
    done = [0] * len(ends)
    for lot in lots:
        is_done = all([done[hand] < ends[hand] for hand in lot])
        for hand in lot:
            if is_done:
                done[hand] += 1
            else:
                ends[hand] = done[hand]
    return tuple(done)


def least_cut(heard, least):
    """The least cut that has, of each hand, at least so many of its meetings."""
    newest = [number for number in news_within(heard, least) if number is not None]
    return greatest_reach([least] + [heard.pasts[number] for number in newest])


def is_cut(hall, weaving, value):
    """Whether any value is a cut of the weaving."""
    heard = Heard(hall, weaving)
    if not isinstance(value, tuple) or len(value) != len(hall.hands):
        return False
    if not all([is_below(many, len(row) + 1) for many, row in zip(value, heard.rows)]):
        return False
    return greatest_cut(heard.lots, value) == value


def cuts_many(hall, weaving):
    """How many cuts there are."""
    return len(story_cuts(hall, weaving).states)


def nth_cut(hall, weaving, number):
    """The cut with this number, as Python sorts them."""
    cuts = sorted(story_cuts(hall, weaving).states)
    check_number(number, len(cuts))
    return cuts[number]


def is_wish(value):
    """Whether value is an ascending tuple of one or more integers from 0 on."""
    if not isinstance(value, tuple) or len(value) == 0:
        return False
    return all([is_integer(many) for many in value]) and value[0] >= 0 and is_ascending(value)


def wished_numbers(heard, wishes):
    """For each hand whether it is wished, for each number of its meetings that cuts can have; raises BadWishes."""
    if not isinstance(wishes, tuple) or len(wishes) != len(heard.rows):
        raise BadWishes(wishes)
    if not all([is_wish(wish) for wish in wishes]):
        raise BadWishes(wishes)
    wished = []
    for wish, row in zip(wishes, heard.rows):
        found = [False] * (len(row) + 1)
        for many in wish:
            if many < len(found):
                found[many] = True
        wished.append(found)
    return wished


def wished_from(wished, many):
    """The least number from many on that is wished; None if there is none."""
    for number in range(many, len(wished)):
        if wished[number]:
            return number
    return None


def least_fitting(heard, wished):
    """The least cut that fits; None if no cut does."""
    cut = (0,) * len(wished)
    while True:
        asked = tuple([wished_from(row, many) for row, many in zip(wished, cut)])
        if None in asked:
            return None
        if asked == cut:
            return cut
        cut = least_cut(heard, asked)


def greatest_fitting(heard, wished):
    """The greatest cut that fits; some cut does."""
    cut = tuple([len(row) for row in heard.rows])
    while True:
        asked = tuple([max([number for number in range(many + 1) if row[number]]) for row, many in zip(wished, cut)])
        if asked == cut:
            return cut
        cut = greatest_cut(heard.lots, asked)


def could_fit(hall, weaving, wishes):
    """("could", least, greatest) with the least and the greatest cut that fits, or ("never",)."""
    heard = Heard(hall, weaving)
    wished = wished_numbers(heard, wishes)
    least = least_fitting(heard, wished)
    if least is None:
        return ("never",)
    return ("could", least, greatest_fitting(heard, wished))


def does_fit(wished, cut):
    """Whether the cut fits."""
    return all([row[many] for row, many in zip(wished, cut)])


def must_fit(hall, weaving, wishes):
    """("must",) if each weaving of the story passes a cut that fits, or ("misses", other)."""
    heard = Heard(hall, weaving)
    wished = wished_numbers(heard, wishes)
    tour = story_cuts(hall, weaving)
    # For each cut whether one can go on from it to the last one and pass none that fits.
    misses = [False] * len(tour.states)
    for number in reversed(range(len(misses))):
        row = tour.rows[number]
        goes_on = len(row) == 0 or any([misses[after] for _, after in row])
        misses[number] = goes_on and not does_fit(wished, tour.states[number])
    if not misses[0]:
        return ("must",)
    other = []
    number = 0
    while tour.rows[number]:
        meeting, number = [step for step in tour.rows[number] if misses[step[1]]][0]
        other.append(meeting)
    return ("misses", tuple(other))


def widest_numbers(heard, cuts):
    """The least of the longest tuples of numbers of which no two hang together.

    Such numbers are what nothing hangs on within some cut.
    """
    found = [tops_within(heard, cut) for cut in cuts]
    return min([(-len(tops), tops) for tops in found])[1]


def lead_on(behind, after, before, start):
    """Give start, if it can be, a meeting that comes next in its row; others may get other ones for it.

    behind tells for each meeting those that may come next, after and before what comes next and
    ahead in the rows so far; start is the last one of its row.
    """
    came = {}
    queue = [start]
    place = 0
    while place < len(queue):
        number = queue[place]
        place += 1
        for later in behind[number]:
            if later in came:
                continue
            came[later] = number
            if before[later] is None:
                exchange(came, after, before, later)
                return
            queue.append(before[later])


def exchange(came, after, before, later):
    """Let each meeting on the way back from later have next what it was come to from there."""
    while later is not None:
        number = came[later]
        given = after[number]
        after[number] = later
        before[later] = number
        later = given


def fewest_rows(heard):
    """As few rows as can be, each meeting of which is in the past of the next one, with all meetings; ascending."""
    many = len(heard.lots)
    behind = [[later for later in range(number + 1, many) if is_in_past(heard, number, later)]
              for number in range(many)]
    after = [None] * many
    before = [None] * many
    for number in range(many):
        lead_on(behind, after, before, number)
    rows = []
    for number in [first for first in range(many) if before[first] is None]:
        row = [number]
        while after[row[-1]] is not None:
            row.append(after[row[-1]])
        rows.append(tuple(row))
    return tuple(rows)


def widest_meetings(hall, weaving):
    """(numbers, rows): as many meetings as can be of which no two hang together, as many rows that have all."""
    cuts = story_cuts(hall, weaving).states
    heard = Heard(hall, weaving)
    return widest_numbers(heard, cuts), fewest_rows(heard)


def is_row(heard, value):
    """Whether value is a tuple of one or more numbers, each in the past of the next one."""
    if not isinstance(value, tuple) or len(value) == 0:
        return False
    if not all([is_below(number, len(heard.lots)) for number in value]) or not is_ascending(value):
        return False
    return all([is_in_past(heard, number, later) for number, later in zip(value, value[1:])])


def shows_widest(hall, weaving, value):
    """Whether value is a pair that widest_meetings may return."""
    cuts = story_cuts(hall, weaving).states
    heard = Heard(hall, weaving)
    if not isinstance(value, tuple) or len(value) != 2:
        return False
    numbers, rows = value
    if not are_below(numbers, len(weaving)) or numbers != widest_numbers(heard, cuts):
        return False
    if not isinstance(rows, tuple) or len(rows) != len(numbers):
        return False
    if not all([is_row(heard, row) for row in rows]) or not is_ascending(rows):
        return False
    held = []
    for row in rows:
        held.extend(row)
    return sorted(held) == list(range(len(weaving)))
