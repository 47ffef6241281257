"""Times by a plain clock, chains and rings straight from the definitions of point 14."""

import itertools
from fractions import Fraction

from tests.plain import Plain
from tests.plain_values import scale_text


def waits_text(numbers, hall_text, least=-4, greatest=9):
    """The text of some scale of waits."""
    return scale_text(hall_text, "waits", lambda kind: (least + numbers.below(greatest - least + 1),))


class PlainClock:
    """A weaving of a hall and a scale of waits, by the definitions."""

    def __init__(self, hall_text, text, weaving):
        self.plain = Plain(hall_text)
        self.hands = range(len(self.plain.hands))
        self.weaving = weaving
        times = [int(line.split(" ")[1]) for line in text.split("\n")[1:]]
        self.durations = [times[kind] + load for kind, load in weaving]
        self.lots = [self.plain.lot(kind) for kind, _ in weaving]
        self.rows = [[number for number, lot in enumerate(self.lots) if hand in lot] for hand in self.hands]

    def begin(self, number):
        earlier = [[at for at in self.rows[hand] if at < number] for hand in self.lots[number]]
        return max(self.end(row[-1]) if row else 0 for row in earlier)

    def end(self, number):
        if not hasattr(self, "kept"):
            self.kept = {}
        if number not in self.kept:
            self.kept[number] = self.begin(number) + self.durations[number]
        return self.kept[number]

    def moments(self):
        return tuple((self.begin(number), self.end(number)) for number in range(len(self.weaving)))

    def ends(self):
        return tuple(self.end(row[-1]) if row else 0 for row in self.rows)

    def latest(self):
        return max(self.end(number) for number in range(len(self.weaving)))

    def goes_on(self, number, after):
        """Whether after is, for some hand of both lots, the next meeting of this hand behind number."""
        return any(number in row and after in row and row.index(after) == row.index(number) + 1 for row in self.rows)

    def ways(self, starts):
        """All rows that begin with one of these and go on as in a chain."""
        level = [(start,) for start in starts]
        while level:
            yield from level
            level = [row + (after,) for row in level for after in range(row[-1] + 1, len(self.weaving))
                     if self.goes_on(row[-1], after)]

    def weight(self, row):
        return sum(self.durations[number] for number in row)

    def heaviest(self):
        if not self.weaving:
            return 0, ()
        chains = list(self.ways(sorted({row[0] for row in self.rows if row})))
        weight = max(self.weight(chain) for chain in chains)
        return weight, min(chain for chain in chains if self.weight(chain) == weight)

    def lateness(self, number, hand):
        pasts = self.plain.pasts(self.weaving)
        heard = [at for at in self.rows[hand] if number in pasts[at]]
        return self.end(heard[0]) - self.end(number) if heard else None

    def following(self):
        """T(p, q) where q follows p, by all ways through one round."""
        told = {}
        for p in self.hands:
            for row in self.ways(self.rows[p][:1]):
                for q in self.hands:
                    if self.rows[q] and row[-1] == self.rows[q][-1]:
                        told[p, q] = max(told.get((p, q), self.weight(row)), self.weight(row))
        return told

    def round_mean(self):
        if not self.weaving:
            return 0, 1, ()
        told = self.following()
        means = []
        for many in self.hands:
            for ring in itertools.permutations(self.hands, many + 1):
                pairs = list(zip(ring, ring[1:] + ring[:1]))
                if ring[0] == min(ring) and all(pair in told for pair in pairs):
                    means.append((-Fraction(sum(told[pair] for pair in pairs), len(ring)), ring))
        mean, ring = min(means)
        return -mean.numerator, mean.denominator, ring


def times_done(plain, weaving, most=200):
    """How many times the weaving can be done, one after the other; None if any number of times."""
    state = plain.start()
    seen = []
    while plain.standing(state) not in seen and len(seen) < most:
        seen.append(plain.standing(state))
        for kind, _ in weaving:
            if plain.told_refusal(state, kind) is not None:
                return len(seen) - 1
            state = plain.behind(state, kind)
    return None
