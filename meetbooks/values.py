"""Values: what meetings and stories are worth, and whether the values of strangers commute."""

from meetbooks.checks import are_below, is_ascending, is_meeting
from meetbooks.errors import BadMeeting, BadNumbers, BadValue, Clashes, NotFinite
from meetbooks.tours import Tour, bare_meetings, row_to
from meetbooks.weavings import holders_of, share_no_hand, steps_from
from meetbooks.worths import combined_worth, do_commute, is_worth, meeting_worth, nothing_worth, row_worth

FINITE = ("states", "turns", "places", "sets")
MOST_TRIPLES = 400


def check_fits(scale):
    """Raise Clashes unless the scale fits."""
    told = scale_fits(scale)
    if told != ("fits",):
        raise Clashes(told)


def empty_value(scale):
    """The value of no meetings."""
    return nothing_worth(scale)


def meeting_value(scale, meeting):
    """The value of the meeting, whether or not the scale fits."""
    if not is_meeting(scale.hall, meeting):
        raise BadMeeting(meeting)
    return meeting_worth(scale, meeting)


def combined_values(scale, one, other):
    """One, then other, combined to one value."""
    for value in (one, other):
        if not is_worth(scale, value):
            raise BadValue(value)
    return combined_worth(scale, one, other)


def scale_fits(scale):
    """("fits",), or ("clashes", one, other) with the first two strangers whose values do not commute."""
    kinds = len(scale.hall)
    for one in range(kinds):
        for other in range(one + 1, kinds):
            if share_no_hand(scale.hall, one, other) and not do_commute(scale, one, other):
                return ("clashes", one, other)
    return ("fits",)


def value_of(scale, weaving):
    """The value of the story of the weaving."""
    check_fits(scale)
    holders_of(scale.hall, weaving)
    return row_worth(scale, weaving)


def has_pasts(hall, weaving, numbers):
    """Whether numbers, of meetings of the weaving, have the past of each meeting among them."""
    among = set(numbers)
    # For each hand whether all its meetings so far are among the numbers.
    whole = [True for name in hall.hands]
    for number, meeting in enumerate(weaving):
        lot = hall.lots[meeting[0]]
        if number not in among:
            for hand in lot:
                whole[hand] = False
        elif not all([whole[hand] for hand in lot]):
            return False
    return True


def check_numbers(hall, weaving, numbers):
    """Raise BadNumbers for what is not an ascending tuple of numbers of meetings with their pasts."""
    if not are_below(numbers, len(weaving)) or not is_ascending(numbers) or not has_pasts(hall, weaving, numbers):
        raise BadNumbers(numbers)


def value_between(scale, weaving, inner, outer):
    """The value of the meetings that are in outer and not in inner, both of them beginnings of the story."""
    check_fits(scale)
    holders_of(scale.hall, weaving)
    check_numbers(scale.hall, weaving, inner)
    check_numbers(scale.hall, weaving, outer)
    within = set(inner)
    between = [weaving[number] for number in outer if number not in within]
    if len(inner) + len(between) != len(outer):
        raise BadNumbers(outer)
    return row_worth(scale, between)


def is_finite(scale):
    """Whether the first word of the scale lets it have so many values alone, and no more."""
    if scale.word == "both":
        return all([part.word in FINITE for part in scale.scales])
    return scale.word in FINITE


def triples_tour(one, other):
    """The tour through all triples (value in one, value in other, holders); raises TooMany(400)."""
    hall = one.hall
    mine = [meeting_worth(one, (kind, 0)) for kind in range(len(hall))]
    its = [meeting_worth(other, (kind, 0)) for kind in range(len(hall))]

    def steps(triple):
        found = []
        for kind, holders in steps_from(hall, triple[2]):
            step = (combined_worth(one, triple[0], mine[kind]), combined_worth(other, triple[1], its[kind]), holders)
            found.append((kind, step))
        return found

    return Tour((nothing_worth(one), nothing_worth(other), hall.first_holders), steps, MOST_TRIPLES)


def scale_tells(one, other):
    """("tells", many) if the value in one always tells the value in other, or else ("parts", first, second)."""
    for number, scale in enumerate((one, other)):
        if not is_finite(scale):
            raise NotFinite(number)
    check_fits(one)
    check_fits(other)
    tour = triples_tour(one, other)
    # For each value in one the number of the first triple that has it.
    firsts = {}
    for number, triple in enumerate(tour.states):
        first = firsts.setdefault(triple[0], number)
        if tour.states[first][1] != triple[1]:
            return ("parts", bare_meetings(row_to(tour, first)), bare_meetings(row_to(tour, number)))
    return ("tells", len(tour.states))
