"""Cuts, what weavings pass and what hangs together, straight from the definitions of point 15."""

import itertools


def plain_cuts(plain, weaving):
    """All cuts, ascending: of all tuples of numbers those by which each meeting is done for all its hands or none."""
    rows = plain.rows(weaving)
    places = []
    seen = [0] * len(rows)
    for kind, _ in weaving:
        places.append({hand: seen[hand] for hand in plain.lot(kind)})
        for hand in plain.lot(kind):
            seen[hand] += 1
    found = []
    for cut in itertools.product(*[range(len(row) + 1) for row in rows]):
        if all(len({place < cut[hand] for hand, place in told.items()}) == 1 for told in places):
            found.append(cut)
    return found


def passed(plain, weaving):
    """The cuts that the weaving passes."""
    cut = [0] * len(plain.hands)
    found = [tuple(cut)]
    for kind, _ in weaving:
        for hand in plain.lot(kind):
            cut[hand] += 1
        found.append(tuple(cut))
    return found


def fits(cut, wishes):
    return all(many in wish for many, wish in zip(cut, wishes))


def plain_could(plain, weaving, wishes):
    fitting = [cut for cut in plain_cuts(plain, weaving) if fits(cut, wishes)]
    if not fitting:
        return ("never",)
    return ("could", tuple(min(row) for row in zip(*fitting)), tuple(max(row) for row in zip(*fitting)))


def plain_must(plain, weaving, wishes):
    """By all weavings of the story."""
    missing = [other for other in plain.story(weaving)
               if not any(fits(cut, wishes) for cut in passed(plain, other))]
    return ("misses", min(missing)) if missing else ("must",)


def hang_together(pasts, one, other):
    return one in pasts[other] or other in pasts[one]


def plain_widest(plain, weaving):
    """The least of the longest tuples of numbers of which no two hang together, by all sets of at most five."""
    pasts = plain.pasts(weaving)
    level = [()]
    while True:
        longer = [some + (number,) for some in level for number in range(some[-1] + 1 if some else 0, len(weaving))
                  if not any(hang_together(pasts, number, one) for one in some)]
        if not longer:
            return min(level)
        level = longer


def is_widest(plain, weaving, value):
    """Whether any value is such a pair as widest_meetings may return, part by part."""
    if type(value) is not tuple or len(value) != 2 or repr(value[0]) != repr(plain_widest(plain, weaving)):
        return False
    rows = value[1]
    if type(rows) is not tuple or len(rows) != len(value[0]) or not all(type(row) is tuple and row for row in rows):
        return False
    numbers = [number for row in rows for number in row]
    if not all(type(number) is int for number in numbers) or sorted(numbers) != list(range(len(weaving))):
        return False
    pasts = plain.pasts(weaving)
    for row in rows:
        if any(low >= high or low not in pasts[high] for low, high in zip(row, row[1:])):
            return False
    return list(rows) == sorted(rows)
