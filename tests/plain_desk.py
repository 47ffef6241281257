"""A desk by the words of point 18: a plain row of meetings, a place and marks; and its journal."""

import re

from meetbooks.halls import Hall
from meetbooks.pasts import joined_pasts
from meetbooks.scales import Scale
from tests.plain import Plain, error_of
from tests.plain_books import books_along
from tests.plain_values import Table


class Wrong(Exception):
    """The name and the value of the error that is to be raised."""


def is_integer(value):
    return type(value) is int


class PlainDesk:
    def __init__(self, hall_text, text):
        self.hall_text, self.text = hall_text, text
        self.plain = Plain(hall_text)
        self.table = Table(hall_text, text)
        self.hands = range(len(self.plain.hands))
        self.meetings = ()
        self.place = 0
        self.marked = {}

    def weaving(self):
        return self.meetings[:self.place]

    def hold(self, meetings):
        self.meetings, self.place = tuple(meetings), len(meetings)

    def here(self):
        here, _ = self.plain.state_behind(self.weaving())
        return [hand for hand in self.hands if self.plain.hands[hand] in here]

    def heard(self, hands):
        """The value of all that is in the views of these hands."""
        weaving = self.weaving()
        numbers = set().union(*[self.plain.view(weaving, hand) for hand in hands])
        return self.table.row(weaving[number] for number in sorted(numbers))

    def meet(self, kind, load):
        if not is_integer(kind) or not 0 <= kind < len(self.plain.kinds):
            raise Wrong("BadKind", kind)
        if not is_integer(load):
            raise Wrong("BadNumber", load)
        told = self.plain.told_refusal(self.plain.state_behind(self.weaving()), kind)
        if told is not None:
            raise Wrong("Refused", told)
        self.hold(self.weaving() + ((kind, load),))
        return tuple((hand, self.heard([hand])) for hand in self.plain.lot(kind) if hand in self.here())

    def back(self, many):
        self.go(many, self.place, -1)

    def on(self, many):
        self.go(many, len(self.meetings) - self.place, 1)

    def go(self, many, most, by):
        if not is_integer(many) or many < 0:
            raise Wrong("BadNumber", many)
        if many > most:
            raise Wrong("TooFar", most)
        self.place += by * many

    def together(self, hands):
        numbers = [hand for hand in hands if is_integer(hand)] if isinstance(hands, tuple) else []
        if not numbers or len(numbers) < len(hands) or numbers != sorted(set(numbers)):
            raise Wrong("BadHands", hands)
        if not set(numbers) <= set(self.here()):
            raise Wrong("BadHands", hands)
        return self.heard(numbers)

    def mark(self, name):
        if not isinstance(name, str) or not re.fullmatch("[a-z]{1,8}", name) or "\n" in name:
            raise Wrong("BadName", name)
        if name in self.marked:
            raise Wrong("Held", name)
        self.marked[name] = self.weaving()

    def weaving_of(self, name):
        if not isinstance(name, str) or name not in self.marked:
            raise Wrong("NoMark", name)
        return self.marked[name]

    def to(self, name):
        self.hold(self.weaving_of(name))

    def join(self, name):
        told = joined_pasts(Hall(self.hall_text), (self.weaving(), self.weaving_of(name)))
        if told[0] == "parts":
            raise Wrong("Parts", told)
        self.hold(told[1])

    def take_back(self, number):
        weaving = self.weaving()
        if not is_integer(number) or not 0 <= number < len(weaving):
            raise Wrong("BadNumber", number)
        pasts = self.plain.pasts(weaving)
        self.hold([meeting for at, meeting in enumerate(weaving) if number not in pasts[at]])
        return tuple(meeting for at, meeting in enumerate(weaving) if number in pasts[at])

    def told(self):
        """What the properties have to be."""
        weaving = self.weaving()
        standing = self.plain.standing(self.plain.state_behind(weaving))
        books = books_along(Scale(Hall(self.hall_text), self.text), weaving)
        return self.meetings, self.place, weaving, standing, books, tuple(sorted(self.marked)), self.place

    def journal(self):
        names = [line.split(" ")[1] for line in self.hall_text.split("\n") if line.startswith("meet ")]
        lines = ["hall"] + ["|" + line for line in self.hall_text.split("\n")]
        lines += ["scale"] + ["|" + line for line in self.text.split("\n")]
        lines += [f"did {names[kind]} {load}" for kind, load in self.meetings] + [f"place {self.place}"]
        for name in sorted(self.marked):
            lines += ["mark " + name] + [f"did {names[kind]} {load}" for kind, load in self.marked[name]]
        return "\n".join(lines)


def told_by(desk):
    """The properties of a desk, and its length."""
    return desk.meetings, desk.place, desk.weaving, desk.standing, desk.books, desk.marks, len(desk)


def bad_line(text):
    """What BadJournal has to tell of a string; None for a journal."""
    lines = text.split("\n")
    start, hall = bad_text(lines, 0, "hall", Hall)
    if hall is None:
        return start
    start, scale = bad_text(lines, start, "scale", lambda part: Scale(hall, part))
    if scale is None:
        return start
    if Table(hall.text, scale.text).fits() != ("fits",):
        return start + 1
    return bad_rest(lines, start, Plain(hall.text), [kind[0] for kind in hall.kinds])


def bad_text(lines, start, word, make):
    """(where the lines behind begin, what was made of the lines), or (number of the wrong line, None)."""
    if lines[start:start + 1] != [word]:
        return start + 1, None
    end = start + 1
    while end < len(lines) and lines[end][:1] == "|":
        end += 1
    part = "\n".join(line[1:] for line in lines[start + 1:end])
    wrong = error_of(make, part)
    return (end, make(part)) if wrong is None else (start + 1 + wrong[1], None)


def bad_rest(lines, start, plain, names):
    """The number of the first wrong line from start on."""
    state, many, mark = plain.start(), 0, None
    is_placed = False
    for number in range(start, len(lines)):
        line = lines[number]
        did = re.fullmatch(r"did ([a-z]+) (0|-?[1-9]\d{0,999})", line, re.ASCII)
        place = re.fullmatch(r"place (0|[1-9]\d{0,8})", line, re.ASCII)
        name = re.fullmatch(r"mark ([a-z]{1,8})", line)
        if did and did.group(1) in names and (mark is not None or not is_placed):
            kind = names.index(did.group(1))
            if plain.told_refusal(state, kind) is not None:
                return number + 1
            state, many = plain.behind(state, kind), many + 1
        elif place and not is_placed and int(place.group(1)) <= many:
            is_placed = True
        elif name and is_placed and (mark is None or name.group(1) > mark):
            state, mark = plain.start(), name.group(1)
        else:
            return number + 1
    return None if is_placed else len(lines) + 1
