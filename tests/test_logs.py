"""Point 16, logs: what hands could keep of themselves, and what follows from all logs together."""

import unittest

from meetbooks.halls import Hall
from meetbooks.logs import logs_of, merged_logs
from tests.plain import (
    ALONE, AWAY, COMING, EIGHT, GREAT, MOVING_TEXTS, NO_MEETINGS, NO_TUPLES, PAIR, STILL_TEXTS, TEXTS, TWO, Numbers,
    Plain, check_error, check_exact, check_wrong_weavings, error_of, odd_cases)


def gone_plainly(plain, logs, numbers):
    """Some weaving whose logs are beginnings of these, which cannot be led on within them."""
    weaving = ()
    while True:
        rows = plain.rows(weaving)
        state = plain.state_behind(weaving)
        able = []
        for hand, log in enumerate(logs):
            for meeting in log[len(rows[hand]):len(rows[hand]) + 1]:
                lot = plain.lot(meeting[0])
                comes = all(logs[at][len(rows[at]):len(rows[at]) + 1] == (meeting,) for at in lot)
                if comes and plain.told_refusal(state, meeting[0]) is None:
                    able.append(meeting)
        if not able:
            return weaving
        weaving += (numbers.one_of(able),)


def plain_merged(plain, logs, numbers):
    weaving = gone_plainly(plain, logs, numbers)
    least = min(plain.story(weaving))
    rows = plain.rows(weaving)
    if rows == logs:
        return ("story", least)
    return ("stuck", least, tuple(log[len(row)] if len(log) > len(row) else None for log, row in zip(logs, rows)))


def changed(numbers, plain, logs):
    """Logs with something in them changed; each still holds meetings of its hand alone."""
    logs = [list(log) for log in logs]
    hand = numbers.below(len(logs))
    log = logs[hand]
    place = numbers.below(len(log) + 1)
    kinds = [kind for kind in range(len(plain.kinds)) if hand in plain.lot(kind)]
    way = numbers.below(7)
    if way == 0:
        del log[place:place + 1]
    elif way == 1:
        log[place:place] = log[place:place + 1]
    elif way == 2:
        log[place:place + 2] = reversed(log[place:place + 2])
    elif way == 3 and place < len(log):
        log[place] = (log[place][0], log[place][1] + 1)
    elif way == 4:
        del log[place:]
    elif way == 5 and kinds:
        log.insert(place, (numbers.one_of(kinds), numbers.below(2)))
    elif way == 6 and kinds:
        # All hands of the lot have one more meeting, which perhaps cannot be there.
        kind = numbers.one_of(kinds)
        for at in plain.lot(kind):
            logs[at].append((kind, 0))
    return tuple(tuple(log) for log in logs)


class LogsOfTest(unittest.TestCase):
    def test_rows_of_hands(self):
        for hall, plain, weaving, _ in odd_cases(1651, 120, 10):
            logs = logs_of(hall, weaving)
            check_exact(self, logs, plain.rows(weaving))
            check_exact(self, logs_of(weaving=weaving, hall=hall), logs)
            if len(weaving) < 7:
                for other in plain.story(weaving):
                    check_exact(self, logs_of(hall, other), logs)

    def test_wrong_weavings(self):
        check_wrong_weavings(self, [logs_of])


class MergedLogsTest(unittest.TestCase):
    def test_logs_of_a_weaving(self):
        for hall, plain, weaving, _ in odd_cases(1652, 200, 7):
            story = plain.story(weaving)
            for other in list(story)[:20]:
                check_exact(self, merged_logs(hall, logs_of(hall, other)), ("story", min(story)))

    def test_any_logs_beside_a_plain_going(self):
        told = {"story": 0, "stuck": 0}
        cannot = 0
        for hall, plain, weaving, numbers in odd_cases(1653, 260, 7):
            logs = plain.rows(weaving)
            for _ in range(6):
                logs = changed(numbers, plain, logs)
                answer = merged_logs(hall, logs)
                check_exact(self, answer, plain_merged(plain, logs, numbers))
                told[answer[0]] += 1
                if answer[0] == "stuck":
                    state = plain.state_behind(answer[1])
                    waits = {meeting for meeting in answer[2] if meeting is not None}
                    cannot += any(all(answer[2][at] == meeting for at in plain.lot(meeting[0]))
                                  and plain.told_refusal(state, meeting[0]) is not None for meeting in waits)
        self.assertGreater(min(told.values()), 150)
        self.assertGreater(cannot, 30)

    def test_logs_of_another_weaving(self):
        for hall, plain, weaving, numbers in odd_cases(1654, 120, 7):
            other = plain.odd_weaving(numbers, 6)
            for hand in range(len(plain.hands)):
                logs = list(plain.rows(weaving))
                logs[hand] = plain.row(other, hand)
                check_exact(self, merged_logs(hall, tuple(logs)), plain_merged(plain, tuple(logs), numbers))

    def test_what_can_come_in_no_standing(self):
        hall = Hall(PAIR)  # s a begins b, t a b, e a b ends b
        check_exact(self, merged_logs(hall, (((1, 0),), ((1, 0),))), ("stuck", (), ((1, 0), (1, 0))))
        twice = ((0, 0), (0, 1))
        check_exact(self, merged_logs(hall, (twice, twice)), ("stuck", ((0, 0),), ((0, 1), (0, 1))))
        whole = ((0, 0), (2, 0), (0, 1))
        check_exact(self, merged_logs(hall, (whole, whole)), ("story", whole))
        # Where all that comes next in the logs waits for a hand that is away.
        check_exact(self, merged_logs(Hall(AWAY), (((3, 0),), ((4, 0), (3, 0)), ((4, 0),))),
                    ("stuck", (), ((3, 0), (4, 0), (4, 0))))

    def test_rings_of_waiting(self):
        hall = Hall("hands a b c\ntaken a b c\nmeet x a b\nmeet y b c\nmeet z c a")
        check_exact(self, merged_logs(hall, (((0, 0), (2, 0)), ((1, 0), (0, 0)), ((2, 0), (1, 0)))),
                    ("stuck", (), ((0, 0), (1, 0), (2, 0))))
        check_exact(self, merged_logs(hall, (((2, 0), (0, 0)), ((1, 0), (0, 0)), ((2, 0), (1, 0)))),
                    ("story", ((2, 0), (1, 0), (0, 0))))

    def test_no_logs_and_names(self):
        for hall_text in TEXTS:
            check_exact(self, merged_logs(Hall(hall_text), ((),) * len(Plain(hall_text).hands)), ("story", ()))
        check_exact(self, merged_logs(logs=(((0, GREAT),), ((1, -GREAT),)), hall=Hall(TWO)),
                    ("story", ((0, GREAT), (1, -GREAT))))

    def test_four_hundred_meetings(self):
        for hall_text in STILL_TEXTS + MOVING_TEXTS:
            hall, plain = Hall(hall_text), Plain(hall_text)
            weaving = plain.odd_weaving(Numbers(1655), 400)
            logs = logs_of(hall, weaving)
            told = merged_logs(hall, logs)
            self.assertEqual(told[0], "story")
            check_exact(self, plain.rows(told[1]), logs)
        logs = tuple(((kind, 0),) * 400 for kind in range(5))
        told = tuple((kind, 0) for kind in range(5) for _ in range(400))
        check_exact(self, merged_logs(Hall(ALONE), logs), ("story", told))
        weaving = Plain(EIGHT).odd_weaving(Numbers(1656), 400)
        cut = tuple(log[:40 + 7 * hand] for hand, log in enumerate(logs_of(Hall(EIGHT), weaving)))
        told = merged_logs(Hall(EIGHT), cut)
        self.assertEqual(told[0], "stuck")
        rows = Plain(EIGHT).rows(told[1])
        check_exact(self, told[2], tuple(log[len(row)] if len(log) > len(row) else None for log, row in zip(cut, rows)))

    def test_wrong_logs(self):
        hall = Hall(TWO)
        good = (((0, 0),), ((1, 0),))
        for value in NO_TUPLES + (
                (), (good[0],), (*good, ()), [*good], (list(good[0]), good[1]), (good[0], list(good[1])),
                (((1, 0),), ((1, 0),)), (((0, 0),), ((0, 0),)), (good[0], ((1, 0), (0, 0))), (None, ()), ((), "x"),
                (((0, 0),), ((2, 0), (3, 0))), ((0, 0), (1, 0)), (good[0], {}), ((), ((2, True),)), ((), ((True, 0),))):
            check_error(self, "BadLogs", value, merged_logs, hall, value)
        for value in NO_MEETINGS:
            check_error(self, "BadLogs", ((), ((1, 0), value)), merged_logs, hall, ((), ((1, 0), value)))
        # A lot that does not hold the hand; what cannot be is no wrong log.
        check_error(self, "BadLogs", ((), (), (), ((0, 0),)), merged_logs, Hall(COMING), ((), (), (), ((0, 0),)))
        self.assertIsNone(error_of(merged_logs, Hall(PAIR), (((2, 0),), ())))


if __name__ == "__main__":
    unittest.main()
