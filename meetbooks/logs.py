"""Logs: the rows of meetings that hands could keep of themselves, and what they are all together."""

from meetbooks.checks import is_meeting
from meetbooks.errors import BadLogs
from meetbooks.stories import rows_told, woven
from meetbooks.weavings import holders_of


def logs_of(hall, weaving):
    """The logs of all hands."""
    holders_of(hall, weaving)
    return tuple(rows_told(hall, weaving))


def is_log(hall, hand, value):
    """Whether value is a tuple of meetings whose lots contain the hand."""
    if not isinstance(value, tuple):
        return False
    return all([is_meeting(hall, meeting) and hand in hall.lots[meeting[0]] for meeting in value])


def check_logs(hall, logs):
    """Raise BadLogs for what is not a tuple with a log for each hand."""
    if not isinstance(logs, tuple) or len(logs) != len(hall.hands):
        raise BadLogs(logs)
    if not all([is_log(hall, hand, log) for hand, log in enumerate(logs)]):
        raise BadLogs(logs)


def merged_logs(hall, logs):
    """("story", weaving) with the least weaving that has these logs, or ("stuck", weaving, waits)."""
    check_logs(hall, logs)
    weaving, done = woven(hall, logs)
    waits = tuple([log[many] if many < len(log) else None for log, many in zip(logs, done)])
    if waits == (None,) * len(waits):
        return ("story", weaving)
    return ("stuck", weaving, waits)
