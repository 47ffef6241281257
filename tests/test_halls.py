"""Point 4: texts that are halls, and what a hall tells of itself."""

import unittest

from meetbooks.halls import Hall
from tests.plain import COMING, EXAMPLE, NO_TUPLES, ROW, TEXTS, Numbers, Plain, check_exact, nested, odd_hall_text

AB = "hands a b\ntaken a b\n"
ABC = "hands a b c\ntaken a b c\n"


def kinds_of(text):
    return Hall(text).kinds


class HallTextsTest(unittest.TestCase):
    def test_two_hands_and_one_kind(self):
        hall = Hall("hands a b\ntaken a b\nmeet x a")
        check_exact(self, hall.text, "hands a b\ntaken a b\nmeet x a")
        check_exact(self, hall.hands, ("a", "b"))
        check_exact(self, hall.kinds, (("x", (0,), None, None, None),))
        check_exact(self, hall.first_standing, (("here", ()), ("here", ())))
        self.assertIs(hall.is_still, True)
        check_exact(self, len(hall), 1)

    def test_five_hands_and_eight_kinds(self):
        lines = [f"meet {name} e" for name in "stuvwxyz"]
        hall = Hall("hands e d c b a\ntaken e d c b a\n" + "\n".join(lines))
        check_exact(self, hall.hands, ("e", "d", "c", "b", "a"))
        check_exact(self, hall.kinds, tuple((name, (0,), None, None, None) for name in "stuvwxyz"))
        check_exact(self, len(hall), 8)
        check_exact(self, hall.first_standing, (("here", ()),) * 5)

    def test_names_of_one_and_of_eight_letters(self):
        hall = Hall("hands abcdefgh z\ntaken z\nright abcdefgh z\nmeet meetings z\nmeet n abcdefgh")
        check_exact(self, hall.hands, ("abcdefgh", "z"))
        self.assertIn("meetings", hall)

    def test_comers_in_any_order(self):
        self.assertEqual([kind[1] for kind in kinds_of(ABC + "meet s c\nmeet t c a\nmeet u b c a\nmeet v a b c")],
                         [(2,), (2, 0), (1, 2, 0), (0, 1, 2)])

    def test_begins_ends_gives_alone(self):
        check_exact(self, kinds_of(ABC + "meet x a begins b"), (("x", (0,), 1, None, None),))
        check_exact(self, kinds_of(ABC + "meet x a b ends b"), (("x", (0, 1), None, 1, None),))
        check_exact(self, kinds_of(ABC + "meet x a b ends a"), (("x", (0, 1), None, 0, None),))
        check_exact(self, kinds_of(ABC + "meet x a gives c"), (("x", (0,), None, None, 2),))

    def test_begins_ends_gives_together(self):
        four = "hands a b c d\ntaken a b c d\n"
        check_exact(self, kinds_of(four + "meet x b a begins c ends b gives d"), (("x", (1, 0), 2, 1, 3),))
        check_exact(self, kinds_of(four + "meet x b a begins d ends a"), (("x", (1, 0), 3, 0, None),))
        check_exact(self, kinds_of(four + "meet x b begins a gives d"), (("x", (1,), 0, None, 3),))
        check_exact(self, kinds_of(four + "meet x d a c ends a gives b"), (("x", (3, 0, 2), None, 0, 1),))
        check_exact(self, kinds_of("hands a b c d e\ntaken a\nright b a\nright c a\nright d a\nright e a\n"
                                   "meet x e a c begins d ends c gives b"), (("x", (4, 0, 2), 3, 2, 1),))

    def test_a_kind_with_the_name_of_a_hand(self):
        hall = Hall(AB + "meet a b\nmeet b a")
        check_exact(self, hall.kinds, (("a", (1,), None, None, None), ("b", (0,), None, None, None)))

    def test_words_of_the_text_within_names(self):
        hall = Hall("hands begin handsa\ntaken begin\nright handsa begin\nmeet ending begin\nmeet ands begin")
        check_exact(self, hall.hands, ("begin", "handsa"))
        self.assertIn("ending", hall)

    def test_several_hands_away(self):
        hall = Hall("hands a b c d e\ntaken b d\nright a d\nright c b\nright e d\nmeet x b")
        check_exact(self, hall.first_standing,
                    (("away",), ("here", (2,)), ("away",), ("here", (0, 4)), ("away",)))

    def test_one_hand_here_has_all_rights(self):
        hall = Hall("hands a b c\ntaken c\nright a c\nright b c\nmeet x c")
        check_exact(self, hall.first_standing, (("away",), ("away",), ("here", (0, 1))))

    def test_still_halls(self):
        for line, still in (("meet x a", True), ("meet x a begins b", False), ("meet x a b ends a", False),
                            ("meet x a gives b", False), ("meet x a\nmeet y a b ends b", False)):
            self.assertIs(Hall(ABC + line).is_still, still)
        self.assertIs(Hall("hands a b\ntaken a\nright b a\nmeet x b").is_still, True)

    def test_all_texts_are_read_back(self):
        numbers = Numbers(11)
        for text in list(TEXTS) + [odd_hall_text(numbers) for _ in range(200)]:
            hall, plain = Hall(text), Plain(text)
            self.assertEqual(Hall(hall.text), hall)
            check_exact(self, hall.text, text)
            check_exact(self, hall.hands, tuple(plain.hands))
            check_exact(self, hall.first_standing, plain.standing(plain.start()))
            self.assertEqual(len(hall), len(plain.kinds))
            for kind, (comers, *asked) in zip(hall.kinds, plain.kinds):
                check_exact(self, kind[1], tuple(plain.hands.index(name) for name in comers))
                check_exact(self, kind[2:], tuple(None if name is None else plain.hands.index(name) for name in asked))
            self.assertIs(hall.is_still, all(asked == [None] * 3 for _, *asked in plain.kinds))


class HallOperatorsTest(unittest.TestCase):
    def test_names_of_kinds_are_in_the_hall(self):
        hall = Hall(EXAMPLE)
        for name in "mnopq":
            self.assertIs(name in hall, True)
        for value in ("a", "b", "c", "x", "", "mn", "meet", "M", " m"):
            self.assertIs(value in hall, False)

    def test_values_that_are_no_strings_are_not_in_the_hall(self):
        hall = Hall(EXAMPLE)
        deep = nested(60, lambda value: {"m": [value]})
        for value in NO_TUPLES + (0, ("m",), ["m"], {"m": 1}, hall, hall.kinds[0], (hall,), deep):
            if not isinstance(value, str):
                self.assertIs(value in hall, False)
                self.assertIs(value not in hall, True)

    def test_halls_with_equal_texts_are_equal(self):
        for text in TEXTS:
            one, other = Hall(text), Hall("\n".join(text.split("\n")))
            self.assertIs(one == other, True)
            self.assertIs(one != other, False)

    def test_halls_with_unlike_texts_are_unequal(self):
        halls = [Hall(text) for text in TEXTS] + [Hall(AB + "meet x a"), Hall(AB + "meet y a"), Hall(AB + "meet x b"),
                                                  Hall(AB + "meet x a b"), Hall(AB + "meet x b a")]
        for place, one in enumerate(halls):
            for other in halls[place + 1:]:
                self.assertIs(one == other, False)
                self.assertIs(one != other, True)

    def test_a_hall_equals_nothing_else(self):
        hall = Hall(ROW)
        for value in NO_TUPLES[:-3] + (hall.text, hall.kinds, (hall.text,), [hall], (hall,), 4):
            if not isinstance(value, Hall):
                self.assertIs(hall == value, False)
                self.assertIs(value == hall, False)
                self.assertIs(hall != value, True)

    def test_by_the_name_of_the_parameter(self):
        self.assertEqual(Hall(text=COMING), Hall(COMING))

    def test_what_is_returned_is_made_of_tuples(self):
        for text in TEXTS:
            hall = Hall(text)
            for value in (hall.hands, hall.kinds, hall.first_standing):
                self.assertNotIn("[", repr(value))


if __name__ == "__main__":
    unittest.main()
