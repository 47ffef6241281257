"""Journals: desks written as texts and read back from them."""

from meetbooks.checks import is_below, is_name, written_integer
from meetbooks.desk import Desk
from meetbooks.errors import BadHall, BadJournal, BadScale
from meetbooks.halls import Hall
from meetbooks.scales import Scale
from meetbooks.values import scale_fits
from meetbooks.weavings import holders_behind, told_refusal

BAR = "|"
MOST_LOAD_FIGURES = 1000


def barred(text):
    """The lines of a text with a bar ahead of each."""
    return [BAR + line for line in text.split("\n")]


def did(hall, meetings):
    """The lines of these meetings."""
    return [f"did {hall.kinds[kind][0]} {load}" for kind, load in meetings]


def journal(desk):
    """The journal of the desk."""
    hall = desk.scale.hall
    lines = ["hall", *barred(hall.text), "scale", *barred(desk.scale.text)]
    lines.extend(did(hall, desk.meetings))
    lines.append(f"place {desk.place}")
    for name in desk.marks:
        lines.append(f"mark {name}")
        lines.extend(did(hall, desk.weaving_of(name)))
    return "\n".join(lines)


class Reader:
    """The lines of a journal, and how many of them have been read."""

    def __init__(self, lines):
        self.lines = lines
        self.many = 0


def words_ahead(reader):
    """The words of the next line; none if all lines have been read."""
    if reader.many == len(reader.lines):
        return []
    return reader.lines[reader.many].split(" ")


def read_line(reader, line):
    """Read the next line, which has to be this one."""
    if reader.lines[reader.many:reader.many + 1] != [line]:
        raise BadJournal(reader.many + 1)
    reader.many += 1


def read_barred(reader):
    """The text of the lines with a bar ahead that come next."""
    start = reader.many
    while reader.many < len(reader.lines) and reader.lines[reader.many].startswith(BAR):
        reader.many += 1
    return "\n".join([line.removeprefix(BAR) for line in reader.lines[start:reader.many]])


def read_hall(reader):
    """The hall whose lines come next."""
    read_line(reader, "hall")
    ahead = reader.many
    try:
        return Hall(read_barred(reader))
    except BadHall as error:
        # The line behind too few lines is one that cannot follow, too.
        raise BadJournal(ahead + error.value) from None


def read_scale(reader, hall):
    """The scale whose lines come next, which has to fit."""
    read_line(reader, "scale")
    ahead = reader.many
    try:
        scale = Scale(hall, read_barred(reader))
    except BadScale as error:
        raise BadJournal(ahead + error.value) from None
    if scale_fits(scale) != ("fits",):
        raise BadJournal(reader.many + 1)
    return scale


def meeting_told(hall, words):
    """The meeting of which the words of a line tell; None if they tell of none."""
    names = [kind[0] for kind in hall.kinds]
    if len(words) != 3 or words[1] not in names:
        return None
    load = written_integer(words[2], MOST_LOAD_FIGURES)
    return None if load is None else (names.index(words[1]), load)


def read_weaving(reader, hall):
    """The weaving whose meetings come next."""
    weaving = []
    holders = hall.first_holders
    words = words_ahead(reader)
    while words[:1] == ["did"]:
        meeting = meeting_told(hall, words)
        if meeting is None or told_refusal(hall, holders, meeting[0]) is not None:
            raise BadJournal(reader.many + 1)
        weaving.append(meeting)
        holders = holders_behind(hall, holders, meeting[0])
        reader.many += 1
        words = words_ahead(reader)
    return tuple(weaving)


def read_place(reader, most):
    """The place that comes next, which is at most so many meetings on."""
    words = words_ahead(reader)
    if len(words) != 2 or words[0] != "place":
        raise BadJournal(reader.many + 1)
    place = written_integer(words[1])
    if not is_below(place, most + 1):
        raise BadJournal(reader.many + 1)
    reader.many += 1
    return place


def read_marks(reader, hall):
    """The weavings of the marks, by their names, up to the end of the lines."""
    marked = {}
    last = ""
    while reader.many < len(reader.lines):
        words = words_ahead(reader)
        if len(words) != 2 or words[0] != "mark" or not is_name(words[1]) or words[1] <= last:
            raise BadJournal(reader.many + 1)
        reader.many += 1
        last = words[1]
        marked[last] = read_weaving(reader, hall)
    return marked


def read_journal(text):
    """The desk whose journal the text is."""
    if not isinstance(text, str):
        raise BadJournal(0)
    reader = Reader(text.split("\n"))
    hall = read_hall(reader)
    scale = read_scale(reader, hall)
    meetings = read_weaving(reader, hall)
    place = read_place(reader, len(meetings))
    marked = read_marks(reader, hall)
    desk = Desk(scale)
    desk.hold(meetings)
    desk.stand(place)
    desk.keep_marks(marked)
    return desk
