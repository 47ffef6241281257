"""Values reckoned anew from the table of point 8, and texts of scales of all sorts, those that fit among them."""

from tests.plain import Plain

WORDS = ("sums", "rows", "states", "costs", "turns", "places", "waits", "sets", "both")
NAMES = ("a", "abc", "b", "begins", "bc", "end", "hand", "x", "y", "z", "zebra")


class Table:
    """A scale's text and the table, read plainly."""

    def __init__(self, hall_text, text):
        self.plain = Plain(hall_text)
        self.hands = len(self.plain.hands)
        lines = text.split("\n")
        self.parts = []
        if lines[0] == "both":
            inner = "\n".join(lines[1:-1])
            self.word = "both"
            self.parts = [Table(hall_text, part) for part in inner.split("\nand\n")]
            return
        head = lines[0].split(" ")
        self.word = head[0]
        self.size = int(head[1]) if len(head) > 1 else None
        self.lines = [line.split(" ")[1:] for line in lines[1:]]

    def empty(self):
        return {
            "sums": lambda: 0,
            "rows": lambda: tuple(0 for _ in range(self.size)),
            "states": lambda: tuple(range(self.size)),
            "costs": lambda: tuple((state, 0) for state in range(self.size)),
            "turns": lambda: (1, 0),
            "places": lambda: tuple(range(self.size)),
            "waits": lambda: tuple(tuple(0 if i == j else None for j in range(self.hands)) for i in range(self.hands)),
            "sets": tuple,
            "both": lambda: tuple(part.empty() for part in self.parts),
        }[self.word]()

    def of(self, meeting):
        kind, load = meeting
        if self.word == "both":
            return tuple(part.of(meeting) for part in self.parts)
        words = self.lines[kind]
        if self.word == "sets":
            return tuple(words)
        numbers = [int(word) for word in words]
        if self.word == "sums":
            return numbers[0] + numbers[1] * load
        if self.word == "rows":
            return tuple(numbers[i] + numbers[self.size + i] * load for i in range(self.size))
        if self.word == "costs":
            return tuple((numbers[2 * s], numbers[2 * s + 1]) for s in range(self.size))
        if self.word == "waits":
            lot = self.plain.lot(kind)
            return tuple(tuple(numbers[0] + load if i in lot and j in lot else 0 if i == j else None
                               for j in range(self.hands)) for i in range(self.hands))
        return tuple(numbers)

    def combined(self, one, other):
        if self.word == "sums":
            return one + other
        if self.word == "rows":
            return tuple(one[i] + other[i] for i in range(self.size))
        if self.word in ("states", "places"):
            return tuple(other[one[s]] for s in range(self.size))
        if self.word == "costs":
            told = []
            for s in range(self.size):
                t, p = one[s]
                u, q = other[t]
                told.append((u, p + q))
            return tuple(told)
        if self.word == "turns":
            (a, b), (c, d) = one, other
            return ((c * a) % self.size, (c * b + d) % self.size)
        if self.word == "waits":
            return tuple(tuple(self.longest(one, other, i, j) for j in range(self.hands)) for i in range(self.hands))
        if self.word == "sets":
            return tuple(sorted({*one, *other}))
        return tuple(part.combined(mine, its) for part, mine, its in zip(self.parts, one, other))

    def longest(self, one, other, i, j):
        found = None
        for k in range(self.hands):
            if one[i][k] is not None and other[k][j] is not None:
                told = one[i][k] + other[k][j]
                found = told if found is None or told > found else found
        return found

    def row(self, meetings):
        value = self.empty()
        for meeting in meetings:
            value = self.combined(value, self.of(meeting))
        return value

    def commute(self, one, other):
        mine, its = self.of((one, 3)), self.of((other, -2))
        return self.combined(mine, its) == self.combined(its, mine)

    def fits(self):
        """What scale_fits has to tell."""
        kinds = range(len(self.plain.kinds))
        for one in kinds:
            for other in kinds[one + 1:]:
                if self.plain.strangers(one, other) and not self.commute(one, other):
                    return ("clashes", one, other)
        return ("fits",)

    def magnitude(self, value):
        """The sum of the integers, without their signs, that stand as sums, costs or times in the value."""
        if self.word == "sums":
            return abs(value)
        if self.word == "rows":
            return sum(abs(part) for part in value)
        if self.word == "costs":
            return sum(abs(cost) for _, cost in value)
        if self.word == "waits":
            return sum(abs(part) for row in value for part in row if part is not None)
        return sum(part.magnitude(mine) for part, mine in zip(self.parts, value))


def kind_names(hall_text):
    return [line.split(" ")[1] for line in hall_text.split("\n") if line.startswith("meet ")]


def scale_text(hall_text, head, row_of):
    """The text of a scale with, for each kind by its number, the words that row_of tells."""
    lines = [head]
    for kind, name in enumerate(kind_names(hall_text)):
        lines.append(" ".join([name] + [str(word) for word in row_of(kind)]))
    return "\n".join(lines)


def power_sums(hall_text):
    return scale_text(hall_text, "sums", lambda kind: (0, 1))


def any_text(numbers, hall_text, word):
    """The text of some scale with this first word, which need not fit."""
    def number():
        return numbers.one_of((0, 1, -1, 7, -12, 999999999, -999999999, numbers.below(50)))

    if word == "both":
        words = [numbers.one_of(WORDS[:-1]) for _ in range(2 + numbers.below(3))]
        return "both\n" + "\nand\n".join(any_text(numbers, hall_text, one) for one in words) + "\nend"
    if word == "sums":
        return scale_text(hall_text, "sums", lambda kind: (number(), number()))
    if word == "waits":
        return scale_text(hall_text, "waits", lambda kind: (number(),))
    if word == "sets":
        return scale_text(hall_text, "sets", lambda kind: sorted(numbers.some_of(NAMES, numbers.below(5))))
    size = {"rows": 1 + numbers.below(6), "states": 1 + numbers.below(6), "costs": 1 + numbers.below(5),
            "turns": 2 + numbers.below(98), "places": 2 + numbers.below(5)}[word]
    rows = {
        "rows": lambda kind: [number() for _ in range(2 * size)],
        "states": lambda kind: [numbers.below(size) for _ in range(size)],
        "costs": lambda kind: [part for _ in range(size) for part in (numbers.below(size), number())],
        "turns": lambda kind: [numbers.below(size), numbers.below(size)],
        "places": lambda kind: numbers.some_of(range(size), size),
    }
    return scale_text(hall_text, f"{word} {size}", rows[word])


def fitting_text(numbers, hall_text, word):
    """The text of some scale with this first word that fits, each hand having something of its own in it."""
    plain = Plain(hall_text)
    hands = len(plain.hands)
    if word == "both":
        words = [numbers.one_of(WORDS[:-1]) for _ in range(2 + numbers.below(3))]
        return "both\n" + "\nand\n".join(fitting_text(numbers, hall_text, one) for one in words) + "\nend"
    if word in ("states", "costs"):
        return bit_states(numbers, hall_text, plain, word)
    if word == "turns":
        return fixed_turns(numbers, hall_text)
    if word == "places":
        size = max(hands, 2) + (hands < 6 and numbers.below(2))
        return scale_text(hall_text, f"places {size}", lambda kind: own_places(numbers, plain.lot(kind), size))
    return any_text(numbers, hall_text, word)


def own_places(numbers, lot, size):
    """A permutation that moves only what lies at the places of this lot."""
    row = list(range(size))
    for place, to in zip(lot, numbers.some_of(lot, len(lot))):
        row[place] = to
    return row


def bit_states(numbers, hall_text, plain, word):
    """States with a bit for each hand: a kind changes those of its lot only, as they tell."""
    size = 2 ** len(plain.hands)

    def row_of(kind):
        lot = plain.lot(kind)
        mask = sum(1 << hand for hand in lot)
        moves = {}
        row = []
        for state in range(size):
            mine = state & mask
            if mine not in moves:
                bits = sum(numbers.below(2) << hand for hand in lot)
                moves[mine] = (bits, numbers.below(9) - 3)
            row.append((state & ~mask) | moves[mine][0])
            if word == "costs":
                row.append(moves[mine][1])
        return row

    return scale_text(hall_text, f"{word} {size}", row_of)


def fixed_turns(numbers, hall_text):
    """Turns that all leave one number as it is, so that they commute."""
    size = 2 + numbers.below(98)
    fixed = numbers.below(size)

    def row_of(kind):
        by = numbers.below(size)
        return (by, (fixed - by * fixed) % size)

    return scale_text(hall_text, f"turns {size}", row_of)
