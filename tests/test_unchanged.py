"""Points 2 and 3: what is passed in is not changed, equal calls return equal results, of tuples at every depth."""

import unittest

from meetbooks import (
    alone, back, books, cuts, fair, journals, knowing, logs, refusing, rules, speakers, times, towns, values)
from meetbooks.desk import Desk
from meetbooks.halls import Hall
from meetbooks.rules import Rule
from meetbooks.scales import Scale
from meetbooks.speakers import Speaker
from tests.plain import CHAIN, PAIR, TWO, check_exact
from tests.plain_books import Play
from tests.plain_values import power_sums

WEAVING = ((0, 3), (1, -2), (2, 7), (0, 1))
LET = "!(?*,z,?*,z,?*)"


def made(value):
    """All that an object keeps, at every depth."""
    if isinstance(value, (Hall, Scale, Rule, Speaker, Desk)):
        return (type(value).__name__, {name: made(kept) for name, kept in vars(value).items()})
    if isinstance(value, (tuple, list)):
        return (type(value).__name__, [made(part) for part in value])
    if isinstance(value, dict):
        return {key: made(part) for key, part in value.items()}
    return vars(value) if hasattr(value, "__dict__") else value


def arguments():
    """(function, its arguments) of all functions from values on."""
    hall, scale = Hall(TWO), Scale(Hall(TWO), power_sums(TWO))
    places = Scale(hall, "places 2\nx 1 0\ny 0 1\nz 0 1")
    rule, other = Rule(hall, LET), Rule(hall, "?*")
    play, rule_play = Play(TWO, power_sums(TWO)), Play(TWO, fair.scale_of(rule))
    for kind, load in WEAVING:
        play.meet(kind, load)
        rule_play.meet(kind, load)
    a, b = play.books
    both = tuple(rule_play.books)
    return [
        (values.empty_value, scale), (values.meeting_value, scale, (0, 5)),
        (values.combined_values, places, (1, 0), (0, 1)),
        (values.scale_fits, scale), (values.value_of, scale, WEAVING),
        (values.value_between, scale, WEAVING, (0,), (0, 1)),
        (values.scale_tells, places, places), (books.first_books, scale), (books.meet, scale, (2, 5), (a, b)),
        (books.heard_value, scale, a), (books.value_beyond, scale, a, (1,)), (books.known_value, scale, a, 1),
        (books.value_anew, scale, b, a), (books.value_only, scale, a, (b,)), (books.whole_value, scale, (a, b)),
        (books.later_news, scale, a, b, 0), (books.heard_standing, scale, a), (books.book_bound, scale),
        (rules.rule_lets, rule, (0, 1, 2)), (rules.machine_of, rule), (rules.same_rule, rule, other),
        (fair.fairness, rule), (fair.fairness, Rule(hall, "x,y")), (fair.scale_of, rule),
        (knowing.knows, rule, WEAVING, (0,)), (knowing.knows, other, WEAVING, (0, 1)),
        (knowing.knows_by, rule, (0, 1), both),
        (knowing.settled, rule, WEAVING), (knowing.comes_to_know, rule, WEAVING), (knowing.tellers, rule),
        (knowing.are_alike, hall, WEAVING, WEAVING[:3], (0, 1)), (knowing.common_word, rule, WEAVING, (0, 1)),
        (refusing.may_meet, rule, WEAVING, 2), (refusing.may_by_books, rule, 2, both),
        (refusing.needless_refusal, rule),
        (alone.own_rows, rule, 0), (alone.own_lets, rule, (2, 0)), (alone.implied_row, rule)] + later_arguments()


def later_arguments():
    """The same of all functions from speakers on."""
    hall = Hall(TWO)
    one, other = Speaker(hall, "say a z\nsay b"), Speaker(hall, "say a ?,?\nsay b")
    waits = Scale(hall, "waits\nx 1\ny 2\nz 3")
    wishes = ((1, 2), (0, 2))
    return [
        (speakers.spoken_words, one, WEAVING), (speakers.speak_alike, one, other), (speakers.speak_alike, one, one),
        (times.moments_of, waits, WEAVING), (times.ends_of, waits, WEAVING), (times.heaviest_chain, waits, WEAVING),
        (times.slack_of, waits, WEAVING, 1), (times.lateness, waits, WEAVING, 0, 1),
        (times.lateness, waits, WEAVING, 3, 1), (times.round_mean, waits, WEAVING),
        (cuts.is_cut, hall, WEAVING, (2, 2)), (cuts.cuts_many, hall, WEAVING), (cuts.nth_cut, hall, WEAVING, 3),
        (cuts.could_fit, hall, WEAVING, wishes), (cuts.must_fit, hall, WEAVING, wishes),
        (cuts.must_fit, hall, WEAVING, ((1,), (0,))), (cuts.widest_meetings, hall, WEAVING),
        (cuts.shows_widest, hall, WEAVING, ((0, 1), ((0, 2, 3), (1,)))), (back.taken_back, hall, WEAVING, 1),
        (back.done_again, hall, WEAVING, ((0, 1), (2, 0))), (back.only_view, hall, WEAVING, 0),
        (logs.logs_of, hall, WEAVING), (logs.merged_logs, hall, (((0, 3), (2, 7)), ((2, 7),))),
        (logs.merged_logs, hall, (((0, 3), (2, 7)), ((2, 5),))),
        (towns.finer_weaving, hall, hall, ((0, 0), (1,), (2, 0)), WEAVING),
        (journals.journal, desk())]


def desk():
    """A desk that has been gone back in, with a mark."""
    made_now = Desk(Scale(Hall(TWO), power_sums(TWO)))
    for kind, load in WEAVING:
        made_now.meet(kind, load)
    made_now.mark("x")
    made_now.back(1)
    return made_now


def types_in(value):
    if isinstance(value, tuple):
        return {tuple}.union(*[types_in(part) for part in value])
    return {type(value)}


class UnchangedTest(unittest.TestCase):
    def test_arguments_stay_as_they_are(self):
        for call, *given in arguments():
            before = repr(made(given))
            call(*given)
            self.assertEqual(repr(made(given)), before, call.__name__)

    def test_equal_calls_return_equal_results(self):
        for (call, *given), (again, *equal) in zip(arguments(), arguments()):
            told = call(*given)
            check_exact(self, call(*given), told)
            check_exact(self, again(*equal), told)

    def test_tuples_at_every_depth(self):
        for call, *given in arguments():
            self.assertLessEqual(types_in(call(*given)), {tuple, int, str, bool, type(None)}, call.__name__)

    def test_halls_and_desks_that_are_made(self):
        hall, text = Hall(TWO), journals.journal(desk())
        names = ("x", "y"), ("a", "b", "c")
        for call, given in ((towns.renamed_hall, (hall, *names)), (towns.split_hand, (hall, 0, "c")),
                            (journals.read_journal, (text,)), (Desk.copy, (desk(),))):
            before = repr(made(given))
            first, second = call(*given), call(*given)
            self.assertEqual(repr(made(given)), before)
            self.assertTrue(first == second)
            self.assertEqual(repr(made(first)), repr(made(second)))
        check_exact(self, journals.read_journal(text).meetings, WEAVING)

    def test_what_desks_tell(self):
        one = desk()
        told = [one.meetings, one.weaving, one.standing, one.books, one.marks, one.meet(2, 1), one.take_back(0)]
        for value in told:
            self.assertLessEqual(types_in(value), {tuple, int, str, bool, type(None)})
        self.assertEqual([type(one.place), type(len(one))], [int, int])

    def test_calls_that_raise_change_nothing(self):
        scale, rule = Scale(Hall(PAIR), power_sums(PAIR)), Rule(Hall(CHAIN), "?*,y,?*")
        for call, *given in ((books.meet, scale, (0, 1), ((), ())), (books.value_beyond, scale, (), [0]),
                             (knowing.knows, rule, ((0, 0),), [0]), (refusing.may_meet, rule, (), 0),
                             (knowing.settled, rule, [(0, 0)]), (alone.own_lets, rule, [0, 1]),
                             (cuts.could_fit, Hall(CHAIN), ((0, 0),), [(0,)]),
                             (back.done_again, Hall(CHAIN), (), [(0, 0)]), (back.taken_back, Hall(CHAIN), (), [0])):
            before = repr(made(given))
            with self.assertRaises(ValueError):
                call(*given)
            self.assertEqual(repr(made(given)), before)


if __name__ == "__main__":
    unittest.main()
