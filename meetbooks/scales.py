"""Scales: what the meetings of a hall are worth, read from texts."""

from meetbooks.checks import is_ascending, is_below, is_name, written_integer
from meetbooks.errors import BadScale

SIZELESS = ("sums", "waits", "sets")
# For each first word that stands ahead of a number, the least and the greatest number.
SIZES = {"rows": (1, 6), "states": (1, 40), "costs": (1, 40), "turns": (2, 99), "places": (2, 6)}
MOST_NAMES = 6
FEWEST_TEXTS = 2
MOST_TEXTS = 4


class ScaleDraft:
    """What the lines of a scale's text have told so far."""

    def __init__(self, hall):
        self.hall = hall
        self.is_both = False
        self.is_ended = False
        # The texts of `both` that a line `and` or `end` has closed.
        self.texts = []
        self.lines = []
        # Word and size of the text that is being read; the word is None ahead of its first line.
        self.word = None
        self.size = None
        self.rows = []


def takes_line(draft, line):
    """Take one more line into the draft; returns whether this line can follow."""
    words = line.split(" ")
    if draft.is_ended:
        return False
    if draft.word is None:
        taken = takes_head(draft, words)
    elif len(draft.rows) < len(draft.hall):
        taken = takes_row(draft, words)
    else:
        return draft.is_both and takes_close(draft, words)
    if taken and draft.word is not None:
        draft.lines.append(line)
    return taken


def takes_head(draft, words):
    if words == ["both"] and not draft.is_both:
        draft.is_both = True
        return True
    if len(words) == 1 and words[0] in SIZELESS:
        draft.word = words[0]
        return True
    if len(words) != 2 or words[0] not in SIZES:
        return False
    size = written_integer(words[1])
    least, greatest = SIZES[words[0]]
    if size is None or not least <= size <= greatest:
        return False
    draft.word = words[0]
    draft.size = size
    return True


def takes_row(draft, words):
    if words[0] != draft.hall.kinds[len(draft.rows)][0]:
        return False
    if draft.word == "sets":
        row = words[1:]
        fits = len(row) <= MOST_NAMES and all([is_name(name) for name in row]) and is_ascending(row)
    else:
        row = [written_integer(word) for word in words[1:]]
        fits = None not in row and numbers_fit(draft.word, draft.size, row)
    if fits:
        draft.rows.append(tuple(row))
    return fits


def numbers_fit(word, size, row):
    """Whether these integers can stand in a line of a scale with this first word and size."""
    if word == "sums":
        return len(row) == 2
    if word == "waits":
        return len(row) == 1
    if word == "rows":
        return len(row) == 2 * size
    if word == "costs":
        return len(row) == 2 * size and all_below(row[::2], size)
    if word == "states":
        return len(row) == size and all_below(row, size)
    if word == "turns":
        return len(row) == 2 and all_below(row, size)
    return sorted(row) == list(range(size))


def all_below(numbers, many):
    return all([is_below(number, many) for number in numbers])


def takes_close(draft, words):
    """Take a line that closes one of the texts of `both`."""
    many = len(draft.texts) + 1
    if words == ["end"] and many >= FEWEST_TEXTS:
        draft.is_ended = True
    elif words != ["and"] or many == MOST_TEXTS:
        return False
    draft.texts.append("\n".join(draft.lines))
    draft.lines = []
    draft.word = None
    draft.size = None
    draft.rows = []
    return True


def is_whole(draft):
    """Whether the lines that were taken are the text of a scale."""
    if draft.is_both:
        return draft.is_ended
    return len(draft.rows) == len(draft.hall)


class Scale:
    """What each meeting of a hall is worth, read from a text."""

    def __init__(self, hall, text):
        if not isinstance(text, str):
            raise BadScale(0)
        draft = ScaleDraft(hall)
        lines = text.split("\n")
        for number, line in enumerate(lines, start=1):
            if not takes_line(draft, line):
                raise BadScale(number)
        if not is_whole(draft):
            raise BadScale(len(lines) + 1)
        self.hall = hall
        self.text = text
        self.word = "both" if draft.is_both else draft.word
        self.size = draft.size
        self.rows = tuple(draft.rows)
        self.scales = tuple([Scale(hall, part) for part in draft.texts])

    def __eq__(self, other):
        return isinstance(other, Scale) and self.hall == other.hall and self.text == other.text
