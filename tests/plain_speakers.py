"""Speakers read and heard straight from the definition of point 13."""

import itertools
import re

from tests.plain import Plain
from tests.plain_knowing import fair_rule
from tests.plain_rules import bad_place, lets, names_of, plain_machine, run, tree_of

WORDS = ("even", "odd", "say", "hands", "a", "eighteig")


def line_told(hall_text, line):
    """(word, rule's text or None) of a line that may stand in a speaker's text; None for other lines."""
    told = re.fullmatch("say ([a-z]{1,8})(?: (.*))?", line, re.DOTALL)
    if told is None or (told.group(2) is not None and bad_place(hall_text, told.group(2)) is not None):
        return None
    return told.groups()


def bad_line(hall_text, text):
    """What BadSpeaker has to tell of a string, None for a speaker's text."""
    lines = text.split("\n")
    for number, line in enumerate(lines, start=1):
        told = line_told(hall_text, line)
        if told is None or number > 5 or (number == 5 and told[1] is not None):
            return number
        if told[1] is None and number < len(lines):
            return number + 1
    return len(lines) + 1 if line_told(hall_text, lines[-1])[1] is not None else None


class Voice:
    """A speaker's text, read plainly."""

    def __init__(self, hall_text, text):
        self.plain = Plain(hall_text)
        self.hall_text = hall_text
        lines = [line_told(hall_text, line) for line in text.split("\n")]
        self.words = [word for word, _ in lines]
        self.rules = [rule for _, rule in lines[:-1]]
        self.trees = [tree_of(names_of(hall_text), rule) for rule in self.rules]
        self.machines = [plain_machine(hall_text, rule) for rule in self.rules]

    def said(self, weaving, number):
        """The word at this meeting, by the kinds of its past in the order of the weaving."""
        past = tuple(weaving[at][0] for at in sorted(self.plain.pasts(weaving)[number]))
        for word, tree in zip(self.words, self.trees):
            if lets(tree, past):
                return word
        return self.words[-1]

    def spoken(self, weaving):
        words = [self.said(weaving, number) for number in range(len(weaving))]
        return tuple(tuple(word for word, (kind, _) in zip(words, weaving) if hand in self.plain.lot(kind))
                     for hand in range(len(self.plain.hands)))

    def word_by_machines(self, kinds):
        return self.word_of([run(machine, kinds) for machine in self.machines])

    def word_of(self, states):
        for word, machine, state in zip(self.words, self.machines, states):
            if state in machine[1]:
                return word
        return self.words[-1]


def open_kinds(plain):
    return [kind for kind, told in enumerate(plain.kinds) if set(told[0]) <= plain.here]


def many_tuples(one, other, most=2000):
    """How many tuples of states come by open kinds, counted up to some more than most."""
    machines = one.machines + other.machines
    seen = {(0,) * len(machines)}
    queue = list(seen)
    for states in queue:
        for kind in open_kinds(one.plain):
            after = tuple(machine[0][state][kind] for machine, state in zip(machines, states))
            if after not in seen and len(seen) <= most:
                seen.add(after)
                queue.append(after)
    return len(seen)


def parting(one, other, longest):
    """The least shortest weaving of at most so many meetings at whose last one other words are said, or None."""
    for many in range(1, longest + 1):
        for kinds in itertools.product(open_kinds(one.plain), repeat=many):
            weaving = tuple((kind, 0) for kind in kinds)
            past = tuple(kinds[at] for at in sorted(one.plain.pasts(weaving)[-1]))
            # Where something is not in the past, the past alone is a shorter weaving.
            if len(past) == many and one.word_by_machines(past) != other.word_by_machines(past):
                return weaving
    return None


def parting_by_unions(one, other):
    """The same of whatever length: each meeting shares a hand with one behind it, or is the last one.

    With each row it is guessed which hands come behind it; this has to hold meeting by meeting.
    """
    plain, machines = one.plain, one.machines + other.machines
    many = len(one.machines)
    hands = range(len(plain.hands))
    lots = {kind: frozenset(plain.lot(kind)) for kind in open_kinds(plain)}
    unions = [frozenset(some) for size in range(1, len(hands) + 1) for some in itertools.combinations(hands, size)]
    level = {((0,) * len(machines), union): () for union in unions}
    seen = set(level)
    while level:
        found = [row for (states, union), row in level.items()
                 if not union and one.word_of(states[:many]) != other.word_of(states[many:])]
        if found:
            return tuple((kind, 0) for kind in min(found))
        further = {}
        for (states, union), row in level.items():
            for kind, lot in lots.items():
                after = tuple(machine[0][state][kind] for machine, state in zip(machines, states))
                for rest in unions_behind(union, lot):
                    if (after, rest) not in seen:
                        further[after, rest] = min(further.get((after, rest), row + (kind,)), row + (kind,))
        seen |= set(further)
        level = further
    return None


def unions_behind(union, lot):
    """All sets of hands that may come behind a meeting of this lot, with which they are the union."""
    if not lot <= union:
        return []
    kept = [frozenset(some) for size in range(1, len(lot) + 1) for some in itertools.combinations(sorted(lot), size)]
    return [union - lot | some for some in kept] + ([frozenset()] if lot == union else [])


def speaker_text(numbers, hall_text, many=None):
    """The text of some speaker whose rules are fair and have at most forty states."""
    many = numbers.below(5) if many is None else many
    lines = [f"say {numbers.one_of(WORDS[:4])} {fair_rule(numbers, hall_text)}" for _ in range(many)]
    return "\n".join(lines + [f"say {numbers.one_of(WORDS[:4])}"])
