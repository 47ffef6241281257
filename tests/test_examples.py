"""The examples of the document, as they stand there."""

import doctest
import unittest

POINT_4 = r"""
>>> from meetbooks.halls import Hall
>>> from meetbooks.weavings import are_strangers, lot_of, next_kinds, refusal, standing_of
>>> hall = Hall('hands a b c\ntaken a b\nright c a\nmeet m a b\nmeet n a begins c\nmeet o c a ends c\nmeet p b\nmeet q a b gives c')
>>> [hall.kinds[2], hall.kinds[4], hall.first_standing, len(hall), 'o' in hall, hall.is_still]
[('o', (2, 0), None, 2, None), ('q', (0, 1), None, None, 2), (('here', (2,)), ('here', ()), ('away',)), 5, True, False]
>>> [lot_of(hall, 1), are_strangers(hall, 1, 3), are_strangers(hall, 0, 1), next_kinds(hall, ())]
[(0, 2), True, False, (0, 1, 3, 4)]
>>> [refusal(hall, (), 2), refusal(hall, ((1, 0),), 1), next_kinds(hall, ((1, 0), (3, 7)))]
[('away', 2), ('right', 2), (0, 2, 3)]
>>> [standing_of(hall, ((1, 0), (2, 5))) == hall.first_standing, standing_of(hall, ((4, 0),))]
[True, (('here', ()), ('here', (2,)), ('away',))]
"""


class ExamplesTest(unittest.TestCase):
    def check(self, text):
        examples = doctest.DocTestParser().get_doctest(text, {}, "example", None, 0)
        told = []
        runner = doctest.DocTestRunner(verbose=False)
        runner.run(examples, out=told.append)
        self.assertEqual(runner.failures, 0, "".join(told))
        self.assertGreater(runner.tries, 0)

    def test_point_4(self):
        self.check(POINT_4)


if __name__ == "__main__":
    unittest.main()
