"""Speakers: what is said at each meeting, by rules over all that it hangs on."""

from meetbooks.checks import check_still, is_name
from meetbooks.errors import BadRule, BadSpeaker
from meetbooks.fair import check_fair
from meetbooks.pasts import Heard, numbers_within
from meetbooks.rules import Rule, machine_of
from meetbooks.tours import Tour, bare_meetings, row_to
from meetbooks.weavings import next_kinds

SAY = "say"
MOST_RULES = 4
MOST_TUPLES = 400


class SpeakerDraft:
    """What the lines of a speaker's text have told so far."""

    def __init__(self, hall):
        self.hall = hall
        self.words = []
        self.rules = []


def is_whole(draft):
    """Whether a line without a rule has been taken, behind which none can follow."""
    return len(draft.words) > len(draft.rules)


def takes_line(draft, line):
    """Take one more line into the draft; returns whether this line can follow."""
    say, _, rest = line.partition(" ")
    word, blank, text = rest.partition(" ")
    if is_whole(draft) or say != SAY or not is_name(word):
        return False
    if blank != "":
        if len(draft.rules) == MOST_RULES:
            return False
        rule = rule_read(draft.hall, text)
        if rule is None:
            return False
        draft.rules.append(rule)
    draft.words.append(word)
    return True


def rule_read(hall, text):
    """The rule with this text; None if it is no rule's text."""
    try:
        return Rule(hall, text)
    except BadRule:
        return None


class Speaker:
    """Which word is said at a meeting, read from a text."""

    def __init__(self, hall, text):
        if not isinstance(text, str):
            raise BadSpeaker(0)
        draft = SpeakerDraft(hall)
        lines = text.split("\n")
        for number, line in enumerate(lines, start=1):
            if not takes_line(draft, line):
                raise BadSpeaker(number)
        if not is_whole(draft):
            raise BadSpeaker(len(lines) + 1)
        for rule in draft.rules:
            check_fair(rule)
        self.hall = hall
        self.text = text
        self.words = tuple(draft.words)
        self.rules = tuple(draft.rules)

    def __eq__(self, other):
        return isinstance(other, Speaker) and self.hall == other.hall and self.text == other.text


def machines_of(speaker):
    """The machines of the rules, in their order."""
    return [machine_of(rule) for rule in speaker.rules]


def states_behind(machines, states, kind):
    """The states of these machines behind one more kind."""
    return tuple([machine[0][state][kind] for machine, state in zip(machines, states)])


def word_said(words, machines, states):
    """The word of the first line whose machine lets what has led to these states, or else that of the last line."""
    for word, machine, state in zip(words, machines, states):
        if state in machine[1]:
            return word
    return words[-1]


def spoken_words(speaker, weaving):
    """For each hand the words that are said at its meetings, in their order."""
    heard = Heard(speaker.hall, weaving)
    machines = machines_of(speaker)
    said = [[] for name in speaker.hall.hands]
    for number, lot in enumerate(heard.lots):
        states = (0,) * len(machines)
        for earlier in numbers_within(heard, heard.pasts[number]):
            states = states_behind(machines, states, weaving[earlier][0])
        word = word_said(speaker.words, machines, states)
        for hand in lot:
            said[hand].append(word)
    return tuple([tuple(words) for words in said])


def tops_behind(hall, tops, kind):
    """The lots, ascending, of what nothing hangs on behind a meeting of this kind, tops being those ahead of it."""
    lot = hall.lots[kind]
    left = [top for top in tops if not any([hand in lot for hand in top])]
    return tuple(sorted([*left, lot]))


def speak_alike(one, other):
    """("alike",), or ("parts", weaving) with the least shortest weaving at whose last meeting other words are said."""
    hall = one.hall
    check_still(hall)
    mine, its = machines_of(one), machines_of(other)
    able = next_kinds(hall, ())
    start = (0,) * (len(mine) + len(its))
    tuples = Tour(start, lambda states: [(kind, states_behind(mine + its, states, kind)) for kind in able], MOST_TUPLES)
    apart = []
    for states in tuples.states:
        apart.append(word_said(one.words, mine, states) != word_said(other.words, its, states[len(mine):]))

    def steps(place):
        number, tops = place
        return [(kind, (after, tops_behind(hall, tops, kind))) for kind, after in tuples.rows[number]]

    tour = Tour((0, ()), steps)
    for number, (states_number, tops) in enumerate(tour.states):
        # The shortest weaving has nothing but the past of its last meeting, which then is the only top.
        if len(tops) == 1 and apart[states_number]:
            return ("parts", bare_meetings(row_to(tour, number)))
    return ("alike",)
