"""What hands know, by going plainly through all rows of meetings behind their joined views; fair rules of all sorts."""

import re

from tests.plain import Plain
from tests.plain_rules import is_fair, names_of, odd_rule, plain_machine, run


class Going:
    """A hall and a rule by its least machine, and goings through rows of meetings."""

    def __init__(self, hall_text, text):
        self.plain = Plain(hall_text)
        self.machine = plain_machine(hall_text, text)
        self.kinds = range(len(self.plain.kinds))

    def is_let(self, state):
        return state in self.machine[1]

    def pair(self, meetings):
        """(state of the machine, state of the hall) behind these meetings."""
        return run(self.machine, [kind for kind, _ in meetings]), self.plain.state_behind(meetings)

    def told(self, pair):
        return pair[0], self.plain.standing(pair[1])

    def joined(self, weaving, hands):
        """The meetings of the joined view."""
        numbers = set().union(*[self.plain.view(weaving, hand) for hand in hands])
        return [meeting for number, meeting in enumerate(weaving) if number in numbers]

    def here(self, weaving):
        here, _ = self.plain.state_behind(weaving)
        return tuple(hand for hand, name in enumerate(self.plain.hands) if name in here)

    def all_from(self, pair, kinds, keeps=None):
        """All pairs that come by these kinds, each with the least shortest row that leads to it, in their sequence."""
        found = {self.told(pair): ((), pair)}
        level = [((), pair)]
        while level:
            further = []
            for row, (state, hall_state) in level:
                for kind in kinds:
                    if self.plain.told_refusal(hall_state, kind) is not None:
                        continue
                    after = (self.machine[0][state][kind], self.plain.behind(hall_state, kind))
                    if keeps is None or keeps(after[0]):
                        further.append((row + ((kind, 0),), after))
            level = []
            for row, after in sorted(further, key=lambda told: told[0]):
                if self.told(after) not in found:
                    found[self.told(after)] = (row, after)
                    level.append((row, after))
        return found

    def told_from(self, pair, kinds):
        """What knows and its like tell."""
        found = self.all_from(pair, kinds)
        let = [row for (state, _), (row, _) in found.items() if self.is_let(state)]
        not_let = [row for (state, _), (row, _) in found.items() if not self.is_let(state)]
        if let and not_let:
            shortest = lambda row: (len(row), row)
            return ("open", min(let, key=shortest), min(not_let, key=shortest))
        return ("surely", bool(let), tuple(sorted(found)))

    def without(self, hands):
        return [kind for kind in self.kinds if not set(self.plain.lot(kind)) & set(hands)]

    def knows(self, weaving, hands):
        return self.told_from(self.pair(self.joined(weaving, hands)), self.without(hands))

    def settled(self, weaving):
        return self.told_from(self.pair(weaving), self.kinds)

    def common_word(self, weaving, hands):
        newest = [number for number, (kind, _) in enumerate(weaving) if set(hands) <= set(self.plain.lot(kind))]
        past = self.plain.pasts(weaving)[newest[-1]] if newest else set()
        meetings = [meeting for number, meeting in enumerate(weaving) if number in past]
        kinds = [kind for kind in self.kinds if not set(hands) <= set(self.plain.lot(kind))]
        return self.told_from(self.pair(meetings), kinds)

    def comes_to_know(self, weaving):
        found = []
        for number, (kind, _) in enumerate(weaving):
            before, behind = weaving[:number], weaving[:number + 1]
            for hand in self.plain.lot(kind):
                if hand not in self.here(behind) or self.knows(behind, (hand,))[0] == "open":
                    continue
                if hand not in self.here(before) or self.knows(before, (hand,))[0] == "open":
                    found.append((number, hand))
        return tuple(found)


def views_told(plain, weaving, hand):
    """The rows of all hands in the view of this one."""
    view = plain.view(weaving, hand)
    return plain.rows([meeting for number, meeting in enumerate(weaving) if number in view])


def own_part(numbers, hall_text, hand):
    """A rule over the kinds of one hand; all others may stand anywhere. It is fair."""
    plain = Plain(hall_text)
    names = names_of(hall_text)
    own = [names[kind] for kind in range(len(names)) if hand in plain.lot(kind)]
    others = [name for name in names if name not in own]
    if not own or len(others) > 3:
        return "?*"
    rest = "(" + "|".join(others) + ")*" if others else "-"
    if numbers.below(2):
        return f"{rest},{numbers.one_of(own)},?*"
    return f"({rest},{numbers.one_of(own)},{rest},{numbers.one_of(own)})*,{rest}"


def fair_rule(numbers, hall_text):
    """The text of some fair rule with at most forty states."""
    names = names_of(hall_text)
    hands = len(Plain(hall_text).hands)
    while True:
        way = numbers.below(7)
        pieces = [f"?*,{numbers.one_of(names)},?*", "(?,?)*", own_part(numbers, hall_text, numbers.below(hands)),
                  f"?*,{numbers.one_of(names)}", f"({numbers.one_of(names)}|{numbers.one_of(names)})*"]
        if way < 3:
            text = odd_rule(numbers, names, 2 + numbers.below(6), 4)
        elif way < 5:
            sign = numbers.one_of(("&", "|"))
            text = f"{no(numbers)}({numbers.one_of(pieces)}){sign}{no(numbers)}({numbers.one_of(pieces)})"
        else:
            text = no(numbers) + "(" + numbers.one_of(pieces) + ")"
        if len(re.findall(r"[a-z]+|\?", text)) > 12:
            continue
        machine = plain_machine(hall_text, text)
        if 1 < len(machine[0]) <= 40 and is_fair(hall_text, text):
            return text


def no(numbers):
    return numbers.one_of(("", "!"))
