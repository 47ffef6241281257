"""Point 18, desks: deed by deed beside a plain row of meetings, a place and marks."""

import unittest

from meetbooks.desk import Desk
from meetbooks.halls import Hall
from meetbooks.scales import Scale
from meetbooks.values import scale_fits
from tests.plain import (
    AWAY, COMING, EIGHT, EXAMPLE, GREAT, HEIRS, NO_INTEGERS, NO_TUPLES, PAIR, STILL_TEXTS, TEXTS, THREE, TWO, Numbers,
    Plain, check_error, check_exact, error_of, nested, odd_hall_text)
from tests.plain_books import books_along
from tests.plain_desk import PlainDesk, Wrong, told_by
from tests.plain_values import WORDS, any_text, fitting_text, power_sums

NAMES = ("a", "b", "abc", "mark", "zzzzzzzz")
NO_NAMES = [value for value in NO_TUPLES if value != "ab"] + [
    (), ("a",), ["a"], "A", "a b", "a1", " a", "a ", "a\n", "abcdefghi", "mark a", "-"]


def desks(seed, many, words=WORDS):
    """(desk, the same plainly, numbers)."""
    numbers = Numbers(seed)
    for place in range(many):
        hall_text = TEXTS[place % len(TEXTS)] if place % 3 else odd_hall_text(numbers)
        text = fitting_text(numbers, hall_text, words[place % len(words)])
        yield Desk(Scale(Hall(hall_text), text)), PlainDesk(hall_text, text), numbers


def odd_deed(numbers, plain, most=7):
    """(name of a method, its arguments), most of them such as the desk takes."""
    way = numbers.below(18)
    if way < 6 and plain.place < most:
        kinds = plain.plain.next_kinds(plain.plain.state_behind(plain.weaving()))
        if kinds and numbers.below(8):
            return "meet", (numbers.one_of(kinds), numbers.one_of((0, 1, -3, 12)))
        return "meet", (numbers.below(len(plain.plain.kinds) + 1), 0)
    if way < 8:
        return "back", (numbers.below(plain.place + 2),)
    if way < 9:
        return "on", (numbers.below(len(plain.meetings) - plain.place + 2),)
    if way < 11:
        hands = plain.here() if numbers.below(4) else list(plain.hands)
        return "together", (tuple(hand for hand in hands if numbers.below(3)),)
    if way < 13:
        return "mark", (numbers.one_of(NAMES),)
    if way < 14:
        return "to", (numbers.one_of(NAMES),)
    if way < 17:
        return "join", (numbers.one_of(NAMES),)
    return "take_back", (numbers.below(plain.place + 1),)


def did(desk, name, given):
    """What a deed comes to: ("told", value) or (name of the error, its value)."""
    try:
        return ("told", getattr(desk, name)(*given))
    except Wrong as wrong:
        return wrong.args
    except ValueError as error:
        return (type(error).__name__, error.value)


class DeedsTest(unittest.TestCase):
    def test_beside_a_plain_desk(self):
        seen = {}
        for desk, plain, numbers in desks(1801, 180):
            check_exact(self, told_by(desk), plain.told())
            for _ in range(22):
                name, given = odd_deed(numbers, plain)
                told, answer = did(desk, name, given), did(plain, name, given)
                check_exact(self, told, answer)
                check_exact(self, told_by(desk), plain.told())
                seen[name, told[0]] = seen.get((name, told[0]), 0) + 1
        for deed in (("meet", "told"), ("meet", "Refused"), ("meet", "BadKind"), ("back", "told"), ("back", "TooFar"),
                     ("on", "told"), ("on", "TooFar"), ("together", "told"), ("together", "BadHands"),
                     ("mark", "told"), ("mark", "Held"), ("to", "told"), ("to", "NoMark"), ("join", "told"),
                     ("join", "NoMark"), ("join", "Parts"), ("take_back", "told"), ("take_back", "BadNumber")):
            self.assertGreater(seen.get(deed, 0), 10, deed)

    def test_a_new_desk(self):
        for desk, plain, _ in desks(1802, 60):
            check_exact(self, told_by(desk), plain.told())
            check_exact(self, (desk.meetings, desk.place, desk.weaving, desk.marks, len(desk)), ((), 0, (), (), 0))
            self.assertTrue(desk.scale == Scale(Hall(plain.hall_text), plain.text))
            check_exact(self, desk.standing, desk.scale.hall.first_standing)

    def test_names_of_arguments(self):
        desk = Desk(scale=Scale(Hall(TWO), power_sums(TWO)))
        check_exact(self, desk.meet(load=5, kind=2), ((0, 5), (1, 5)))
        check_exact(self, [desk.back(many=1), desk.on(many=1), desk.mark(name="x"), desk.back(many=1)], [None] * 4)
        check_exact(self, [desk.to(name="x"), desk.join(name="x"), desk.together(hands=(0, 1))], [None, None, 5])
        check_exact(self, desk.take_back(number=0), ((2, 5),))
        check_exact(self, desk.tried(look=lambda one: len(one), keep=False), 0)

    def test_scales_that_clash(self):
        numbers = Numbers(1803)
        many = 0
        for place in range(200):
            hall_text = TEXTS[place % len(TEXTS)]
            scale = Scale(Hall(hall_text), any_text(numbers, hall_text, numbers.one_of(("states", "turns", "places"))))
            told = scale_fits(scale)
            if told == ("fits",):
                self.assertIsNone(error_of(Desk, scale))
            else:
                check_error(self, "Clashes", told, Desk, scale)
                many += 1
        self.assertGreater(many, 60)

    def test_what_is_told_of_a_meeting(self):
        # e ends b: only a is told; s begins b, who is told, too.
        desk = Desk(Scale(Hall(PAIR), power_sums(PAIR)))
        check_exact(self, [desk.meet(0, 4), desk.meet(1, GREAT), desk.meet(2, 1)],
                    [((0, 4), (1, 4)), ((0, GREAT + 4), (1, GREAT + 4)), ((0, GREAT + 5),)])
        check_exact(self, [book is None for book in desk.books], [False, True])
        check_exact(self, desk.standing, (("here", (1,)), ("away",)))

    def test_meetings_behind_the_place_go(self):
        desk = Desk(Scale(Hall(TWO), power_sums(TWO)))
        for kind in (0, 1, 2, 0):
            desk.meet(kind, 1)
        desk.back(3)
        check_exact(self, (desk.meetings, desk.weaving), (((0, 1), (1, 1), (2, 1), (0, 1)), ((0, 1),)))
        check_exact(self, desk.together((0, 1)), 1)
        desk.on(2)
        check_exact(self, desk.together((0, 1)), 3)
        desk.back(2)
        # Even the very meeting that stands behind the place has nothing behind it then.
        desk.meet(1, 1)
        check_exact(self, (desk.meetings, desk.place), (((0, 1), (1, 1)), 2))
        check_error(self, "TooFar", 0, desk.on, 1)

    def test_take_back_ahead_of_the_place(self):
        desk = Desk(Scale(Hall(TWO), power_sums(TWO)))
        for kind in (0, 1, 2, 0):
            desk.meet(kind, 1)
        desk.back(2)
        check_error(self, "BadNumber", 2, desk.take_back, 2)
        check_exact(self, desk.take_back(0), ((0, 1),))
        check_exact(self, (desk.meetings, desk.place), (((1, 1),), 1))

    def test_join(self):
        desk = Desk(Scale(Hall(THREE), power_sums(THREE)))  # x a, y b, z a b, u c
        desk.meet(3, 1)
        desk.meet(1, 2)
        desk.mark("one")
        desk.take_back(1)
        desk.meet(0, 5)
        desk.join("one")
        check_exact(self, (desk.meetings, desk.place, desk.marks), (((0, 5), (1, 2), (3, 1)), 3, ("one",)))
        desk.to("one")
        desk.back(2)
        desk.meet(3, 9)
        check_error(self, "Parts", ("parts", 0, 1, 2, 0), desk.join, "one")
        check_exact(self, desk.meetings, ((3, 9),))

    def test_four_hundred_meetings(self):
        numbers = Numbers(1804)
        for hall_text, word in ((EIGHT, "both"), (EIGHT, "waits"), (COMING, "states"), (TWO, "sums"), (HEIRS, "costs")):
            text = fitting_text(numbers, hall_text, word)
            desk, plain = Desk(Scale(Hall(hall_text), text)), Plain(hall_text)
            weaving = plain.odd_weaving(numbers, 400)
            for kind, load in weaving:
                desk.meet(kind, load)
            check_exact(self, (desk.weaving, desk.books), (weaving, books_along(desk.scale, weaving)))
            desk.mark("all")
            desk.back(len(weaving) // 2)
            desk.mark("half")
            gone = desk.take_back(0)
            desk.join("half")
            check_exact(self, len(desk), len(weaving) - len(weaving) // 2)
            desk.to("all")
            desk.take_back(len(weaving) - 1)
            check_exact(self, desk.meetings, weaving[:-1])
            desk.join("all")
            check_exact(self, desk.books, books_along(desk.scale, desk.weaving))
            self.assertGreater(len(gone), 0)
            check_exact(self, desk.tried(lambda one: one.back(1)), None)
            self.assertTrue(desk == desk.copy())


class ErrorsTest(unittest.TestCase):
    def setUp(self):
        self.desk = Desk(Scale(Hall(COMING), power_sums(COMING)))
        for kind in (3, 6):
            self.desk.meet(kind, 1)
        self.desk.mark("m")
        self.desk.back(1)
        self.before = self.desk.copy()

    def tearDown(self):
        self.assertTrue(self.desk == self.before)
        check_exact(self, told_by(self.desk), told_by(self.before))

    def test_kinds_then_loads_then_what_is_refused(self):
        for value in NO_INTEGERS + (-1, 8, 9, GREAT, -GREAT):
            check_error(self, "BadKind", value, self.desk.meet, value, 0)
            check_error(self, "BadKind", value, self.desk.meet, value, None)
        for value in NO_INTEGERS:
            check_error(self, "BadNumber", value, self.desk.meet, 0, value)
            check_error(self, "BadNumber", value, self.desk.meet, 1, value)
        check_error(self, "Refused", ("away", 2), self.desk.meet, 1, 0)
        check_error(self, "Refused", ("right", 3), self.desk.meet, 3, 0)

    def test_how_many(self):
        for value in NO_INTEGERS + (-1, -GREAT):
            check_error(self, "BadNumber", value, self.desk.back, value)
            check_error(self, "BadNumber", value, self.desk.on, value)
        for value in (2, 3, GREAT):
            check_error(self, "TooFar", 1, self.desk.back, value)
            check_error(self, "TooFar", 1, self.desk.on, value)

    def test_hands_together(self):
        for value in NO_TUPLES + (
                (), (1, 0), (0, 0), (4,), (-1,), (0, 4), (True,), (False, 1), (0, True), (None,), ("0",), [0], ((0,),),
                (0, 1, 1), (2,), (0, 2), (0, 1, 2, 3), (GREAT,), (0, 1, 2)):
            check_error(self, "BadHands", value, self.desk.together, value)
        check_exact(self, [self.desk.together((0, 1, 3)), self.desk.together((0,))], [1, 0])

    def test_names_of_marks(self):
        for value in NO_NAMES:
            check_error(self, "BadName", value, self.desk.mark, value)
            check_error(self, "NoMark", value, self.desk.to, value)
            check_error(self, "NoMark", value, self.desk.join, value)
        check_error(self, "Held", "m", self.desk.mark, "m")
        for value in ("mm", "n", "hands", ""):
            check_error(self, "NoMark", value, self.desk.to, value)
            check_error(self, "NoMark", value, self.desk.join, value)

    def test_numbers_to_take_back(self):
        for value in NO_INTEGERS + (-1, 1, 2, GREAT, -GREAT):
            check_error(self, "BadNumber", value, self.desk.take_back, value)

    def test_parts(self):
        self.desk.back(1)
        self.desk.meet(3, 7)
        check_error(self, "Parts", ("parts", 0, 1, 1, 0), self.desk.join, "m")
        check_exact(self, self.desk.meetings, ((3, 7),))
        self.desk.to("m")
        self.desk.back(1)


class Stopped(Exception):
    """What a look raises."""


class TriedTest(unittest.TestCase):
    def deeds(self, numbers, desk, plain, many):
        for _ in range(many):
            name, given = odd_deed(numbers, plain)
            self.assertEqual(did(desk, name, given), did(plain, name, given))

    def kept(self, plain):
        return plain.meetings, plain.place, dict(plain.marked)

    def test_kept_not_kept_and_raising(self):
        for desk, plain, numbers in desks(1805, 80, ("sums", "states", "sets")):
            self.deeds(numbers, desk, plain, 8)
            for keep in (False, True, 1, None, "True", (True,), [], 0, True):
                before = self.kept(plain)
                is_raising = numbers.below(3) == 0

                def look(one):
                    self.assertIs(one, desk)
                    self.deeds(numbers, one, plain, 6)
                    if is_raising:
                        raise Stopped("told")
                    return ("told", keep)

                if is_raising:
                    with self.assertRaises(Stopped) as caught:
                        desk.tried(look, keep=keep)
                    self.assertEqual(caught.exception.args, ("told",))
                else:
                    check_exact(self, desk.tried(look, keep=keep), ("told", keep))
                if is_raising or keep is not True:
                    plain.meetings, plain.place, plain.marked = before
                check_exact(self, told_by(desk), plain.told())

    def test_keep_is_passed_by_name_alone(self):
        desk = Desk(Scale(Hall(TWO), power_sums(TWO)))
        with self.assertRaises(TypeError):
            desk.tried(len, True)
        check_exact(self, desk.tried(lambda one: one.meet(2, 3), keep=True), ((0, 3), (1, 3)))
        check_exact(self, [desk.tried(lambda one: one.meet(2, 3)), len(desk)], [((0, 6), (1, 6)), 1])

    def test_tried_within_tried(self):
        desk = Desk(Scale(Hall(TWO), power_sums(TWO)))
        desk.meet(0, 1)
        desk.mark("first")

        def inner(one):
            one.meet(1, 5)
            one.mark("inner")
            return one.together((0, 1))

        def outer(one):
            one.meet(0, 2)
            one.mark("outer")
            told = [one.tried(inner), one.marks, one.tried(inner, keep=True), one.marks, len(one)]
            with self.assertRaises(Stopped):
                one.tried(stopping, keep=True)
            return told + [one.place]

        def stopping(one):
            one.to("first")
            one.mark("gone")
            raise Stopped

        told = [8, ("first", "outer"), 8, ("first", "inner", "outer"), 3, 3]
        check_exact(self, desk.tried(outer), told)
        check_exact(self, (desk.meetings, desk.marks), (((0, 1),), ("first",)))
        check_exact(self, desk.tried(outer, keep=True), told)
        check_exact(self, (desk.meetings, desk.marks), (((0, 1), (0, 2), (1, 5)), ("first", "inner", "outer")))

    def test_errors_of_the_desk_are_passed_on(self):
        desk = Desk(Scale(Hall(TWO), power_sums(TWO)))
        desk.meet(0, 1)

        def look(one):
            one.meet(1, 1)
            one.back(2)
            one.mark("x")
            one.on(9)

        check_error(self, "TooFar", 2, desk.tried, look)
        with self.assertRaises(KeyboardInterrupt):
            desk.tried(self.interrupted, keep=True)
        check_exact(self, (desk.meetings, desk.place, desk.marks), (((0, 1),), 1, ()))

    def interrupted(self, desk):
        desk.meet(1, 1)
        raise KeyboardInterrupt

    def test_a_look_that_marks_and_goes_back(self):
        desk = Desk(Scale(Hall(EXAMPLE), power_sums(EXAMPLE)))
        for kind in (0, 1, 2, 3):
            desk.meet(kind, 2)
        desk.back(1)
        before = desk.copy()
        desk.tried(lambda one: (one.mark("x"), one.back(2), one.meet(3, 1), one.mark("y"), one.to("x")))
        self.assertTrue(desk == before and desk.place == 3 and len(desk.meetings) == 4)
        check_exact(self, told_by(desk), told_by(before))


class CopyTest(unittest.TestCase):
    def test_changes_of_one_do_not_change_the_other(self):
        for desk, plain, numbers in desks(1806, 60, ("sums", "turns", "rows")):
            for _ in range(6):
                name, given = odd_deed(numbers, plain)
                did(desk, name, given)
                did(plain, name, given)
            twin = desk.copy()
            self.assertTrue(twin == desk and desk == twin and not twin != desk)
            check_exact(self, told_by(twin), plain.told())
            before = told_by(desk)
            for _ in range(6):
                did(twin, *odd_deed(numbers, plain))
            check_exact(self, told_by(desk), before)
            twin = desk.copy()
            before = told_by(twin)
            for _ in range(6):
                did(desk, *odd_deed(numbers, plain))
            check_exact(self, told_by(twin), before)

    def test_equality(self):
        def made(deeds, hall_text=TWO, text=None):
            desk = Desk(Scale(Hall(hall_text), text or power_sums(hall_text)))
            for name, given in deeds:
                getattr(desk, name)(*given)
            return desk

        deeds = (("meet", (0, 1)), ("mark", ("x",)), ("meet", (1, 2)), ("back", (1,)))
        one = made(deeds)
        self.assertTrue(one == made(deeds))
        self.assertFalse(one != made(deeds))
        # Another way to the same journal.
        self.assertTrue(one == made((("meet", (0, 1)), ("meet", (2, 2)), ("back", (1,)), ("mark", ("x",)),
                                     ("meet", (1, 2)), ("back", (1,)))))
        others = [made(deeds[:3]), made(deeds[:2]), made(deeds + (("on", (1,)),)), made(deeds + (("mark", ("y",)),)),
                  made((("meet", (0, 1)), ("mark", ("y",)), *deeds[2:])), made((("meet", (0, 2)), *deeds[1:])),
                  made((("mark", ("x",)), deeds[0], *deeds[2:])), made(deeds, TWO, "sums\nx 0 1\ny 0 1\nz 0 2"),
                  made(deeds, AWAY), Scale(Hall(TWO), power_sums(TWO)), None, (), "x", 1, Hall(TWO)]
        for other in others:
            self.assertFalse(one == other)
            self.assertTrue(one != other)
        self.assertFalse(made(()) == made((), THREE))

    def test_any_value_beside_a_desk(self):
        desk = Desk(Scale(Hall(TWO), power_sums(TWO)))
        for value in NO_TUPLES + (nested(60, lambda value: (value,)), []):
            self.assertFalse(desk == value)
            self.assertFalse(value == desk)

    def test_still_halls_of_the_tests(self):
        for hall_text in STILL_TEXTS:
            desk = Desk(Scale(Hall(hall_text), power_sums(hall_text)))
            self.assertTrue(desk == desk.copy() and desk.copy().copy() == desk)


if __name__ == "__main__":
    unittest.main()
