"""The examples of the document, as they stand there."""

import doctest
import unittest

POINT_4 = r"""
>>> from meetbooks.halls import Hall
>>> from meetbooks.weavings import are_strangers, lot_of, next_kinds, refusal, standing_of
>>> hall = Hall('hands a b c\ntaken a b\nright c a\nmeet m a b\nmeet n a begins c\nmeet o c a ends c\nmeet p b\nmeet q a b gives c')
>>> [hall.kinds[2], hall.kinds[4], hall.first_standing, len(hall), 'o' in hall, hall.is_still]
[('o', (2, 0), None, 2, None), ('q', (0, 1), None, None, 2), (('here', (2,)), ('here', ()), ('away',)), 5, True, False]
>>> [lot_of(hall, 1), are_strangers(hall, 1, 3), are_strangers(hall, 0, 1), next_kinds(hall, ())]
[(0, 2), True, False, (0, 1, 3, 4)]
>>> [refusal(hall, (), 2), refusal(hall, ((1, 0),), 1), next_kinds(hall, ((1, 0), (3, 7)))]
[('away', 2), ('right', 2), (0, 2, 3)]
>>> [standing_of(hall, ((1, 0), (2, 5))) == hall.first_standing, standing_of(hall, ((4, 0),))]
[True, (('here', ()), ('here', (2,)), ('away',))]
"""

POINT_5 = r"""
>>> from meetbooks.halls import Hall
>>> from meetbooks.stories import hand_row, is_beginning, least_weaving, led_over, same_story, shows_led_over, story_levels
>>> hall = Hall('hands a b c\ntaken a b c\nmeet x a\nmeet y b\nmeet z a b\nmeet u c')
>>> weaving = ((3, 0), (1, 0), (0, 5), (2, 0))
>>> [story_levels(hall, weaving), least_weaving(hall, weaving)]
[(((0, 5), (1, 0), (3, 0)), ((2, 0),)), ((0, 5), (1, 0), (2, 0), (3, 0))]
>>> [hand_row(hall, weaving, 1), same_story(hall, weaving, ((1, 0), (0, 5), (3, 0))), is_beginning(hall, ((3, 0), (1, 0)), weaving)]
[((1, 0), (2, 0)), ('parts', 0, 1), True]
>>> least = least_weaving(hall, weaving)
>>> [len(led_over(hall, weaving, least)), shows_led_over(hall, weaving, least, (1, 0, 1, 2)), shows_led_over(hall, weaving, least, (0, 1, 2, 0))]
[4, True, True]
"""

POINT_6 = r"""
>>> from meetbooks.halls import Hall
>>> from meetbooks.pasts import by_turns, common_past, joined_pasts, meetings_left, news_of, news_of_news, past_of, view_of
>>> hall = Hall('hands a b c\ntaken a b c\nmeet x a b\nmeet y b c\nmeet z c')
>>> weaving = ((0, 0), (2, 0), (1, 0), (0, 0), (2, 0))
>>> [past_of(hall, weaving, 3), view_of(hall, weaving, 2), news_of(hall, weaving, 2), news_of_news(hall, weaving, 2)]
[(0, 1, 2, 3), (0, 1, 2, 4), (0, 2, 4), ((0, 0, None), (0, 2, 2), (0, 2, 4))]
>>> [common_past(hall, weaving, 0, 2), by_turns(hall, weaving, (1, 2)), by_turns(hall, weaving, (0, 2))]
[((0, 1, 2), ((2, 2, 1),)), ((3, 2), 2), ((3, 2, 0), None)]
>>> [joined_pasts(hall, (((0, 0),), ((2, 0),))), joined_pasts(hall, (((0, 0), (1, 0)), ((2, 0),))), meetings_left(hall, weaving, ((2, 0), (0, 0)))]
[('joined', ((0, 0), (2, 0))), ('parts', 0, 1, 2, 0), ('left', ((1, 0), (0, 0), (2, 0)))]
"""

POINT_7 = r"""
>>> from meetbooks.counts import nth_story, story_count, story_number, stranger_series, stranger_sets, weaving_count, weavings_of
>>> from meetbooks.halls import Hall
>>> row = Hall('hands a b c d\ntaken a b c d\nmeet x a b\nmeet y c d\nmeet z b c')
>>> [stranger_sets(row), stranger_series(row, 5), [story_count(row, 2), weaving_count(row, 2)]]
[(1, 3, 1), (1, 3, 8, 21, 55), [8, 9]]
>>> [nth_story(row, 2, 1), nth_story(row, 2, 3), story_number(row, ((1, 7), (0, 0)))]
[((0, 0), (1, 0)), ((1, 0), (1, 0)), 1]
>>> [weavings_of(row, ((0, 0), (1, 0), (2, 0))), weavings_of(row, ((2, 0), (0, 0), (1, 0), (0, 0)))]
[2, 3]
>>> pair = Hall('hands a b\ntaken a\nright b a\nmeet s a begins b\nmeet t a b\nmeet e a b ends b')
>>> [[story_count(pair, many) for many in (1, 2, 3, 4)], nth_story(pair, 3, 2)]
[[1, 2, 3, 5], ((0, 0), (2, 0), (0, 0))]
"""

POINT_8 = r"""
>>> from meetbooks.halls import Hall
>>> from meetbooks.scales import Scale
>>> from meetbooks.values import combined_values, meeting_value, scale_fits, scale_tells, value_between, value_of
>>> hall = Hall('hands a b c\ntaken a b c\nmeet x a b\nmeet y c\nmeet z b c')
>>> sums = Scale(hall, 'sums\nx 1 0\ny 0 1\nz 2 1')
>>> some = ((0, 0), (1, 4), (2, 5))
>>> [meeting_value(sums, (2, 5)), value_of(sums, some), value_between(sums, some, (0,), (0, 1, 2))]
[7, 12, 11]
>>> [scale_fits(Scale(hall, 'states 2\nx 1 1\ny 0 0\nz 0 1')), scale_fits(Scale(hall, 'turns 5\nx 2 1\ny 3 2\nz 0 4'))]
[('clashes', 0, 1), ('fits',)]
>>> waits = Scale(hall, 'waits\nx 3\ny 2\nz 1')
>>> [meeting_value(waits, (0, 1)), combined_values(waits, meeting_value(waits, (0, 1)), meeting_value(waits, (2, 0)))]
[((4, 4, None), (4, 4, None), (None, None, 0)), ((4, 5, 5), (4, 5, 5), (None, 1, 1))]
>>> odd = Scale(hall, 'places 2\nx 1 0\ny 0 1\nz 0 1')
>>> [scale_tells(odd, Scale(hall, 'states 2\nx 1 0\ny 0 1\nz 0 1')), scale_tells(Scale(hall, 'sets\nx\ny\nz'), odd)]
[('tells', 2), ('parts', (), ((0, 0),))]
"""

POINT_9 = r"""
>>> from meetbooks.books import first_books, heard_value, known_value, later_news, meet, value_anew, value_beyond, whole_value
>>> from meetbooks.halls import Hall
>>> from meetbooks.scales import Scale
>>> hall = Hall('hands a b c\ntaken a b c\nmeet x a b\nmeet y b c\nmeet z a c')
>>> scale = Scale(hall, 'sums\nx 0 1\ny 0 1\nz 0 1')
>>> a, b, c = first_books(scale)
>>> a, b = meet(scale, (0, 1), (a, b))
>>> b, c = meet(scale, (1, 2), (b, c))
>>> [heard_value(scale, one) for one in (a, b, c)] + [value_anew(scale, a, c), value_anew(scale, c, a), whole_value(scale, (a, c))]
[1, 3, 3, 2, 0, 3]
>>> [later_news(scale, a, c, hand) for hand in (0, 1, 2)]
['same', 'other', 'other']
>>> a, c = meet(scale, (2, 4), (a, c))
>>> [heard_value(scale, a), value_beyond(scale, a, (1,)), known_value(scale, a, 1), heard_value(scale, b)]
[7, 4, 3, 3]
"""

POINT_10 = r"""
>>> from meetbooks.fair import fairness, scale_of
>>> from meetbooks.halls import Hall
>>> from meetbooks.rules import Rule, machine_of, rule_lets, same_rule
>>> row = Hall('hands a b c d\ntaken a b c d\nmeet x a b\nmeet y c d\nmeet z b c')
>>> met, both = Rule(row, '?*,x,?*'), Rule(row, 'x,y|y,x')
>>> [rule_lets(met, (2, 0)), () in met, ('x',) in met, machine_of(met)]
[True, False, False, (((1, 0, 0), (1, 1, 1)), (1,))]
>>> machine_of(both)
(((1, 2, 3), (3, 4, 3), (4, 3, 3), (3, 3, 3), (3, 3, 3)), (4,))
>>> [fairness(both), fairness(Rule(row, 'x,y')), fairness(Rule(row, '!(?*,x,z,?*)'))]
[('fair',), ('unfair', (0, 1), (1, 0)), ('unfair', (0, 1, 2), (1, 0, 2))]
>>> [scale_of(met), same_rule(met, Rule(row, '!(y|z)*')), same_rule(met, both)]
['states 2\nx 1 1\ny 0 1\nz 0 1', ('same',), ('parts', (0,))]
"""

POINT_11 = r"""
>>> from meetbooks.halls import Hall
>>> from meetbooks.rules import Rule
>>> from meetbooks.knowing import comes_to_know, common_word, knows, tellers
>>> hall = Hall('hands a b c\ntaken a b c\nmeet x a b\nmeet y b c\nmeet z c')
>>> rule = Rule(hall, '(x | z)* , y , (x | y | z)*')
>>> x, y = (0, 0), (1, 0)
>>> [knows(rule, (x, y), (0,)), [knows(rule, (x, y), (hand,))[:2] for hand in (1, 2)], knows(rule, (x,), (1,))[:2]]
[('open', ((1, 0),), ()), [('surely', True), ('surely', True)], ('surely', False)]
>>> knows(rule, (x, y), (2,))[2]
((1, (('here', ()), ('here', ()), ('here', ()))),)
>>> [comes_to_know(rule, (x, y, x)), tellers(rule)]
[((2, 0),), (((1,), (2,)), (((0,), (), 1),))]
>>> [common_word(rule, (y, x), (0, 1))[:2], common_word(rule, (y, x), (0, 2))]
[('surely', True), ('open', ((1, 0),), ())]
"""

POINT_12 = r"""
>>> from meetbooks.halls import Hall
>>> from meetbooks.refusing import may_meet, needless_refusal
>>> from meetbooks.rules import Rule
>>> hall = Hall('hands a b\ntaken a b\nmeet x a\nmeet y b\nmeet z a b')
>>> rule = Rule(hall, '(x*|y*),(z,(x*|y*))*')
>>> [may_meet(rule, weaving, kind) for weaving, kind in (((), 0), (((0, 0),), 0), (((0, 0),), 2), (((1, 0),), 0))]
[('breaks', ((1, 0),)), ('may',), ('may',), ('breaks', ((1, 0),))]
>>> [needless_refusal(rule)[0], needless_refusal(Rule(hall, '?*'))]
['refuses', ('never',)]
"""

# Of the example of point 13 what needs alone.py alone.
POINT_13 = r"""
>>> from meetbooks.alone import implied_row, own_lets, own_rows
>>> from meetbooks.halls import Hall
>>> from meetbooks.rules import Rule
>>> from meetbooks.speakers import speak_alike, Speaker, spoken_words
>>> hall = Hall('hands a b\ntaken a b\nmeet x a\nmeet y b\nmeet z a b')
>>> both = Rule(hall, 'x,y|y,x|-')
>>> [own_rows(both, 0), implied_row(both), implied_row(Rule(hall, '?*'))]
[((0, 2), ((1, 2), (2, 2), (2, 2)), (0, 1)), ('implied', (0,)), ('none',)]
>>> [own_lets(both, (1,)), own_lets(both, (1, 2))]
[True, False]
>>> even = Speaker(hall, 'say even (?,?)*\nsay odd')
>>> spoken_words(even, ((0, 0), (1, 0), (2, 0), (0, 0)))
(('odd', 'odd', 'even'), ('odd', 'odd'))
>>> odd = Speaker(hall, 'say odd ?,(?,?)*\nsay even')
>>> [speak_alike(even, odd), speak_alike(even, Speaker(hall, 'say odd'))]
[('alike',), ('parts', ((0, 0), (0, 0)))]
"""

POINT_14 = r"""
>>> from meetbooks.halls import Hall
>>> from meetbooks.scales import Scale
>>> from meetbooks.times import ends_of, heaviest_chain, lateness, round_mean, slack_of
>>> hall = Hall('hands a b c\ntaken a b c\nmeet x a b\nmeet y a\nmeet z c')
>>> scale = Scale(hall, 'waits\nx 3\ny 2\nz 1')
>>> weaving = ((0, 0), (1, 0), (0, 1), (2, 0))
>>> [ends_of(scale, weaving), heaviest_chain(scale, weaving), slack_of(scale, weaving, 3)]
[(9, 9, 1), (9, (0, 1, 2)), 8]
>>> [lateness(scale, weaving, 1, 1), lateness(scale, weaving, 0, 2), round_mean(scale, ((0, 0), (1, 0)))]
[4, None, (5, 1, (0,))]
"""

POINT_15 = r"""
>>> from meetbooks.cuts import could_fit, cuts_many, is_cut, must_fit, nth_cut, shows_widest, widest_meetings
>>> from meetbooks.halls import Hall
>>> hall = Hall('hands a b\ntaken a b\nmeet x a\nmeet y b\nmeet z a b')
>>> weaving = ((0, 0), (1, 0), (2, 0), (0, 0))
>>> [cuts_many(hall, weaving), nth_cut(hall, weaving, 4), is_cut(hall, weaving, (2, 1)), widest_meetings(hall, weaving)[0]]
[6, (2, 2), False, (0, 1)]
>>> [could_fit(hall, weaving, ((1,), (0, 1))), must_fit(hall, weaving, ((1,), (1,))), must_fit(hall, weaving, ((1,), (0,)))]
[('could', (1, 0), (1, 1)), ('must',), ('misses', ((1, 0), (0, 0), (2, 0), (0, 0)))]
>>> shows_widest(hall, weaving, ((0, 1), ((0, 2, 3), (1,))))
True
"""

POINT_16 = r"""
>>> from meetbooks.back import done_again, only_view, taken_back
>>> from meetbooks.halls import Hall
>>> from meetbooks.logs import merged_logs
>>> hall = Hall('hands a b\ntaken a b\nmeet x a\nmeet y b\nmeet z a b')
>>> weaving = ((0, 0), (1, 0), (2, 0), (0, 5))
>>> [taken_back(hall, weaving, 0), only_view(hall, weaving, 0)]
[(((1, 0),), ((0, 0), (2, 0), (0, 5))), (3,)]
>>> done_again(hall, ((1, 0), (1, 7)), ((0, 0), (2, 0)))
(((1, 0), (1, 7), (0, 0), (2, 0)), ())
>>> merged_logs(hall, (((0, 0), (2, 0)), ((2, 0), (1, 0))))
('story', ((0, 0), (2, 0), (1, 0)))
>>> merged_logs(hall, (((2, 0), (0, 0)), ((1, 0), (1, 0))))
('stuck', ((1, 0), (1, 0)), ((2, 0), None))
"""

POINT_17 = r"""
>>> from meetbooks.halls import Hall
>>> from meetbooks.towns import finer_weaving, split_hand
>>> hall = Hall('hands a b\ntaken a b\nmeet x a\nmeet y b\nmeet z a b')
>>> split_hand(hall, 0, 'c').text
'hands a b c\ntaken a b c\nmeet x a c\nmeet y b\nmeet z a c b'
>>> other = Hall('hands a b\ntaken a b\nmeet p a\nmeet q b')
>>> finer_weaving(hall, other, ((0,), (1,), (1, 0, 1)), ((2, 7), (0, 1)))
((1, 7), (0, 0), (1, 0), (0, 1))
"""

POINT_18 = r"""
>>> from meetbooks.desk import Desk
>>> from meetbooks.halls import Hall
>>> from meetbooks.journals import journal, read_journal
>>> from meetbooks.scales import Scale
>>> hall = Hall('hands a b\ntaken a b\nmeet m a b\nmeet p a\nmeet q b')
>>> desk = Desk(Scale(hall, 'sums\nm 1 0\np 0 1\nq 0 1'))
>>> [desk.meet(1, 2), desk.meet(2, 3), desk.together((0,)), desk.together((0, 1)), desk.mark('x')]
[((0, 2),), ((1, 3),), 2, 5, None]
>>> [desk.meet(0, 9), desk.take_back(0), desk.weaving, desk.place, desk.marks]
[((0, 6), (1, 6)), ((1, 2), (0, 9)), ((2, 3),), 1, ('x',)]
>>> [desk.join('x'), desk.weaving, read_journal(journal(desk)) == desk]
[None, ((1, 2), (2, 3)), True]
>>> journal(desk).split('\n')[10:]
['|q 0 1', 'did p 2', 'did q 3', 'place 2', 'mark x', 'did p 2', 'did q 3']
"""

IN_WORDS = r"""
>>> from meetbooks.errors import BadRule
>>> from meetbooks.halls import Hall
>>> from meetbooks.refusing import may_meet
>>> from meetbooks.rules import Rule, rule_lets
>>> from meetbooks.scales import Scale
>>> from meetbooks.values import value_of
>>> hall = Hall('hands a b c\ntaken a b c\nmeet x a b\nmeet y c\nmeet z b c')
>>> turns = Scale(hall, 'turns 5\nx 2 1\ny 3 2\nz 0 4')
>>> [value_of(turns, ((0, 0), (1, 0))), value_of(turns, ((1, 0), (0, 0)))]
[(1, 0), (1, 0)]
>>> def place(text):
...     try:
...         Rule(hall, text)
...     except BadRule as error:
...         return error.value
>>> [place(text) for text in ('x,q', 'x &', 'x , !', '(x&x)*', 'x x')]
[2, 3, 4, 5, 2]
>>> rows = [(), (0,), (0, 1), (1, 0), (0, 0, 0)]
>>> [rule_lets(Rule(hall, '!x,y'), row) == rule_lets(Rule(hall, '!(x,y)'), row) for row in rows]
[True, True, True, True, True]
>>> pair = Hall('hands a b\ntaken a b\nmeet x a\nmeet y b\nmeet z a b')
>>> rule = Rule(pair, '(x*|y*),(z,(x*|y*))*')
>>> [may_meet(rule, weaving, 1) for weaving in ((), ((0, 0),), ((1, 0),))]
[('breaks', ((0, 0),)), ('breaks', ((0, 0),)), ('may',)]
>>> from meetbooks.cuts import nth_cut
>>> from meetbooks.times import ends_of, moments_of
>>> chain = Hall('hands a b c\ntaken a b c\nmeet x a b\nmeet y a\nmeet z c')
>>> waits = Scale(chain, 'waits\nx 3\ny 2\nz 1')
>>> [moments_of(waits, ((0, 0), (1, 0), (0, 1), (2, 0)))[2], ends_of(waits, ((0, 0), (1, 0)))]
[(5, 9), (5, 3, 0)]
>>> [nth_cut(pair, ((0, 0), (1, 0), (2, 0), (0, 0)), number) for number in range(6)]
[(0, 0), (0, 1), (1, 0), (1, 1), (2, 2), (3, 2)]
"""


class ExamplesTest(unittest.TestCase):
    def check(self, text):
        examples = doctest.DocTestParser().get_doctest(text, {}, "example", None, 0)
        told = []
        runner = doctest.DocTestRunner(verbose=False)
        runner.run(examples, out=told.append)
        self.assertEqual(runner.failures, 0, "".join(told))
        self.assertGreater(runner.tries, 0)

    def test_point_4(self):
        self.check(POINT_4)

    def test_point_5(self):
        self.check(POINT_5)

    def test_point_6(self):
        self.check(POINT_6)

    def test_point_7(self):
        self.check(POINT_7)

    def test_point_8(self):
        self.check(POINT_8)

    def test_point_9(self):
        self.check(POINT_9)

    def test_point_10(self):
        self.check(POINT_10)

    def test_point_11(self):
        self.check(POINT_11)

    def test_point_12(self):
        self.check(POINT_12)

    def test_point_13(self):
        self.check(POINT_13)

    def test_point_14(self):
        self.check(POINT_14)

    def test_point_15(self):
        self.check(POINT_15)

    def test_point_16(self):
        self.check(POINT_16)

    def test_point_17(self):
        self.check(POINT_17)

    def test_point_18(self):
        self.check(POINT_18)

    def test_what_is_told_in_words(self):
        self.check(IN_WORDS)


if __name__ == "__main__":
    unittest.main()
