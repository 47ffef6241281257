"""What the tests have in common: halls, odd values, and a plain reckoning straight from the definitions.

The reckoning here reads the texts of halls by itself and works with names, sets and plain
searches. It uses nothing of the package but Hall.
"""

import re

from meetbooks.halls import Hall


def nested(depth, make):
    """A value with so many levels, each made from the one within."""
    value = 0
    for _ in range(depth):
        value = make(value)
    return value


EXAMPLE = ("hands a b c\ntaken a b\nright c a\nmeet m a b\nmeet n a begins c\nmeet o c a ends c\n"
           "meet p b\nmeet q a b gives c")
ROW = "hands a b c d\ntaken a b c d\nmeet x a b\nmeet y c d\nmeet z b c"
PAIR = "hands a b\ntaken a\nright b a\nmeet s a begins b\nmeet t a b\nmeet e a b ends b"
THREE = "hands a b c\ntaken a b c\nmeet x a\nmeet y b\nmeet z a b\nmeet u c"
CHAIN = "hands a b c\ntaken a b c\nmeet x a b\nmeet y b c\nmeet z c"
AWAY = "hands a b c\ntaken a b\nright c b\nmeet x a\nmeet y b\nmeet z c\nmeet w a b\nmeet v b c"
TWO = "hands a b\ntaken a b\nmeet x a\nmeet y b\nmeet z a b"
LONE = "hands a b\ntaken a\nright b a\nmeet x b"
ALONE = "hands a b c d e\ntaken a b c d e\nmeet p a\nmeet q b\nmeet r c\nmeet s d\nmeet t e"
EIGHT = ("hands a b c d e\ntaken a b c d e\nmeet p a\nmeet q b\nmeet r c\nmeet s d\nmeet t e\n"
         "meet u a b c\nmeet v d e\nmeet w c b")
COMING = ("hands a b c d\ntaken a b\nright c a\nright d b\nmeet begin a begins c\nmeet go c a ends c\n"
          "meet pass a b gives c\nmeet start b begins d\nmeet stop b d ends b\nmeet back d begins b\n"
          "meet own d\nmeet all a b d")
HEIRS = ("hands a b c d\ntaken a b c\nright d b\nmeet x a b c ends b\nmeet y b a c gives d\n"
         "meet z c b ends c gives d\nmeet t c begins b\nmeet u a begins d\nmeet v b a begins d ends b")
STILL_TEXTS = (ROW, THREE, TWO, CHAIN, AWAY, LONE, ALONE, EIGHT)
# Thirty standings can come in the first of these, and thirty-one in the second.
THIRTY_STANDINGS = ("hands a b c d e\ntaken a b d e\nright c e\nmeet p a e ends a\nmeet q e a begins c ends e\n"
                    "meet r b c ends c\nmeet s a\nmeet t c b begins e\nmeet u d a e ends d\nmeet v a c begins e\n"
                    "meet w d b ends b")
ONE_MORE_STANDING = THIRTY_STANDINGS.replace("meet s a", "meet s a begins b")
MOVING_TEXTS = (EXAMPLE, PAIR, COMING, HEIRS, THIRTY_STANDINGS)
TEXTS = STILL_TEXTS + MOVING_TEXTS

# Values that are no integers, for arguments that have to be.
NO_INTEGERS = (None, True, False, "", "0", "a", "x", (), (0,), [], [0], {}, {0: 0}, Hall(CHAIN),
               nested(60, lambda value: [value]), nested(60, lambda value: (value,)))
# Values of all sorts that are no tuples.
NO_TUPLES = (None, True, False, 0, -1, 10 ** 299, "", "ab", [], [(0, 0)], {}, {(0, 0): 1}, Hall(CHAIN),
             nested(60, lambda value: [value]), nested(60, lambda value: {0: value}))
# Values of all sorts that no hall takes for a meeting.
NO_MEETINGS = (None, True, 0, "x", "ab", (), (0,), (0, 0, 0), [0, 0], [], {}, {0: 0}, Hall(CHAIN), (True, 0),
               (False, 0), (0, True), (0, False), (0, None), (None, 0), ("x", 0), (0, "0"), (-1, 0), (99, 0),
               (8, 0), (10 ** 299, 0), ((0,), 0), (0, (0,)), ([0], 0), ((0, 0), (0, 0)), (Hall(CHAIN), 0),
               nested(60, lambda value: (value,)), nested(60, lambda value: [value]))


GREAT = 10 ** 300 - 1


class Numbers:
    """Numbers that look odd and are the same in each run."""

    def __init__(self, seed):
        self.state = seed

    def below(self, many):
        self.state = (self.state * 6364136223846793005 + 1442695040888963407) & (2 ** 64 - 1)
        return (self.state >> 33) % many

    def one_of(self, values):
        return values[self.below(len(values))]

    def some_of(self, values, many):
        left = list(values)
        return [left.pop(self.below(len(left))) for _ in range(many)]


class Plain:
    """A hall as its text tells it, and the state of its hands by names."""

    def __init__(self, text):
        self.kinds = []
        self.right = {}
        self.kept_pasts = {}
        for line in text.split("\n"):
            words = line.split()
            if words[0] == "hands":
                self.hands = words[1:]
            elif words[0] == "taken":
                self.here = set(words[1:])
            elif words[0] == "right":
                self.right[words[1]] = words[2]
            else:
                self.kinds.append(self.kind_told(words))
        self.lots = [self.lot_told(comers, begins) for comers, begins, _, _ in self.kinds]

    def kind_told(self, words):
        told = re.fullmatch(r"meet \w+((?: \w+)*?)(?: begins (\w+))?(?: ends (\w+))?(?: gives (\w+))?", " ".join(words))
        return told.group(1).split(), told.group(2), told.group(3), told.group(4)

    def lot_told(self, comers, begins):
        return [hand for hand, name in enumerate(self.hands) if name in comers or name == begins]

    def lot(self, kind):
        return self.lots[kind]

    def strangers(self, one, other):
        return not set(self.lot(one)) & set(self.lot(other))

    def start(self):
        return set(self.here), dict(self.right)

    def told_refusal(self, state, kind):
        here, right = state
        comers, begins, _, gives = self.kinds[kind]
        away = [comer for comer in comers if comer not in here]
        if away:
            return ("away", self.hands.index(away[0]))
        for hand in (begins, gives):
            if hand is not None and right.get(hand) not in comers:
                return ("right", self.hands.index(hand))
        return None

    def behind(self, state, kind):
        here, right = set(state[0]), dict(state[1])
        comers, begins, ends, gives = self.kinds[kind]
        if begins is not None:
            here.add(begins)
            del right[begins]
        if gives is not None:
            right[gives] = comers[-1]
        if ends is not None:
            here.remove(ends)
            heir = comers[1] if comers[0] == ends else comers[0]
            right = {hand: heir if owner == ends else owner for hand, owner in right.items()}
            right[ends] = heir
        return here, right

    def standing(self, state):
        here, right = state
        told = []
        for name in self.hands:
            if name in here:
                rights = [hand for hand, other in enumerate(self.hands) if right.get(other) == name]
                told.append(("here", tuple(rights)))
            else:
                told.append(("away",))
        return tuple(told)

    def state_behind(self, weaving):
        state = self.start()
        for kind, _ in weaving:
            assert self.told_refusal(state, kind) is None
            state = self.behind(state, kind)
        return state

    def next_kinds(self, state):
        return tuple(kind for kind in range(len(self.kinds)) if self.told_refusal(state, kind) is None)

    def kinds_of(self, many):
        """All rows of so many kinds that weavings have."""
        rows = [((), self.start())]
        for _ in range(many):
            rows = [(row + (kind,), self.behind(state, kind)) for row, state in rows for kind in self.next_kinds(state)]
        return [row for row, _ in rows]

    def odd_weaving(self, numbers, many, loads=3):
        """Some weaving of at most so many meetings."""
        weaving = []
        state = self.start()
        while len(weaving) < many and self.next_kinds(state):
            kind = numbers.one_of(self.next_kinds(state))
            weaving.append((kind, numbers.below(loads)))
            state = self.behind(state, kind)
        return tuple(weaving)

    def row(self, weaving, hand):
        return tuple(meeting for meeting in weaving if hand in self.lot(meeting[0]))

    def rows(self, weaving):
        return tuple(self.row(weaving, hand) for hand in range(len(self.hands)))

    def story(self, weaving):
        """All weavings that exchanges of neighbouring strangers lead to, each with the fewest exchanges."""
        found = {weaving: 0}
        queue = [weaving]
        for one in queue:
            for place in range(len(one) - 1):
                if self.strangers(one[place][0], one[place + 1][0]):
                    other = one[:place] + (one[place + 1], one[place]) + one[place + 2:]
                    if other not in found:
                        found[other] = found[one] + 1
                        queue.append(other)
        return found

    def pasts(self, weaving):
        """For each meeting the set of its number and of all that it hangs on, by the definition."""
        kinds = tuple(kind for kind, _ in weaving)
        if kinds not in self.kept_pasts:
            self.kept_pasts[kinds] = self.pasts_anew(weaving)
        return self.kept_pasts[kinds]

    def pasts_anew(self, weaving):
        pasts = []
        for number, (kind, _) in enumerate(weaving):
            past = {number}
            for earlier in range(number):
                if not self.strangers(kind, weaving[earlier][0]):
                    past |= pasts[earlier]
            pasts.append(past)
        return pasts

    def view(self, weaving, hand):
        pasts = self.pasts(weaving)
        mine = [number for number, (kind, _) in enumerate(weaving) if hand in self.lot(kind)]
        return pasts[mine[-1]] if mine else set()

    def news(self, weaving, numbers):
        """For each hand the greatest of these numbers of a meeting of its lot, or None."""
        told = []
        for hand in range(len(self.hands)):
            told.append(max((number for number in numbers if hand in self.lot(weaving[number][0])), default=None))
        return tuple(told)

    def tops(self, weaving, numbers):
        pasts = self.pasts(weaving)
        return tuple(one for one in sorted(numbers)
                     if not any(one in pasts[other] for other in numbers if other != one))


def odd_hall_text(numbers, hands=None, kinds=None):
    """The text of some hall in which hands may come and go."""
    names = ["a", "b", "c", "d", "e"][:hands or 2 + numbers.below(4)]
    taken = [name for name in names if numbers.below(4)] or names[:1]
    lines = ["hands " + " ".join(names), "taken " + " ".join(taken)]
    lines += [f"right {name} {numbers.one_of(taken)}" for name in names if name not in taken]
    for number in range(kinds or 1 + numbers.below(8)):
        lines.append(f"meet {'pqrstuvw'[number]} " + odd_comers(numbers, names))
    return "\n".join(lines)


def odd_comers(numbers, names):
    comers = numbers.some_of(names, min(len(names), numbers.one_of((1, 1, 2, 2, 2, 3))))
    others = [name for name in names if name not in comers]
    words = list(comers)
    if others and numbers.below(3) == 0:
        words += ["begins", others.pop(numbers.below(len(others)))]
    if len(comers) > 1 and numbers.below(3) == 0:
        words += ["ends", numbers.one_of(comers)]
    if others and numbers.below(4) == 0:
        words += ["gives", numbers.one_of(others)]
    return " ".join(words)


def odd_cases(seed, many, longest, loads=2):
    """Halls of all sorts, each with a weaving."""
    numbers = Numbers(seed)
    for place in range(many):
        text = TEXTS[place] if place < len(TEXTS) else odd_hall_text(numbers)
        plain = Plain(text)
        yield Hall(text), plain, plain.odd_weaving(numbers, 1 + numbers.below(longest), loads), numbers


def exact(value):
    """A text that is the same for two plain values only if they are the same part by part, True being no 1."""
    return repr(value)


def error_of(call, *given, **named):
    """(name of the error's class, its value) of the error that the call raises; None if it raises none."""
    try:
        call(*given, **named)
    except ValueError as error:
        return type(error).__name__, error.value
    return None


def check_error(case, name, value, call, *given):
    """Fail unless the call raises the error with this name and this value."""
    told = error_of(call, *given)
    case.assertIsNotNone(told, f"no error, {name} was to be raised")
    case.assertEqual(told[0], name)
    if isinstance(value, (Hall, list, dict)):
        case.assertIs(told[1], value)
    else:
        case.assertEqual(exact(told[1]), exact(value))


def check_exact(case, told, value):
    """Fail unless both are the same, part by part."""
    case.assertEqual(exact(told), exact(value))


def check_wrong_weavings(case, calls):
    """Fail unless each call, of a hall and a weaving, raises BadWeaving for what is no weaving."""
    for call in calls:
        for value in NO_TUPLES:
            check_error(case, "BadWeaving", -1, call, Hall(EIGHT), value)
        for value in NO_MEETINGS:
            check_error(case, "BadWeaving", 1, call, Hall(EIGHT), ((0, 1), value))
        check_error(case, "BadWeaving", 1, call, Hall(AWAY), ((0, 0), (2, 0)))
        check_error(case, "BadWeaving", 2, call, Hall(PAIR), ((0, 0), (2, 0), (1, 0)))
