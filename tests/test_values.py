"""Point 8, values: the table, commuting, fitting, the values of weavings, scales that tell one another."""

import unittest

from meetbooks.halls import Hall
from meetbooks.scales import Scale
from meetbooks.values import (
    combined_values, empty_value, meeting_value, scale_fits, scale_tells, value_between, value_of)
from tests.plain import (
    ALONE, CHAIN, COMING, EIGHT, GREAT, MOVING_TEXTS, NO_MEETINGS, NO_TUPLES, PAIR, ROW, TEXTS, THREE, TWO, Numbers,
    Plain, check_error, check_exact, error_of, nested, odd_hall_text)
from tests.plain_values import WORDS, Table, any_text, fitting_text, kind_names, scale_text

FREE = "hands a b c\ntaken a b c\nmeet x a b\nmeet y c\nmeet z b c"


def cases(seed, many):
    """Halls, each with a scale of each first word that need not fit."""
    numbers = Numbers(seed)
    for place in range(many):
        text = TEXTS[place] if place < len(TEXTS) else odd_hall_text(numbers)
        for word in WORDS:
            told = any_text(numbers, text, word)
            yield Hall(text), Scale(Hall(text), told), Table(text, told), numbers


def fitting_cases(seed, many):
    numbers = Numbers(seed)
    for place in range(many):
        text = TEXTS[place] if place < len(TEXTS) else odd_hall_text(numbers)
        for word in WORDS:
            told = fitting_text(numbers, text, word)
            yield Scale(Hall(text), told), Table(text, told), Plain(text), numbers


def odd_load(numbers):
    return numbers.one_of((0, 1, -1, 5, -40, GREAT, -GREAT, numbers.below(100)))


def odd_value(numbers, table, hall, many=4):
    return table.row([(numbers.below(len(hall)), odd_load(numbers)) for _ in range(numbers.below(many))])


class MeetingValueTest(unittest.TestCase):
    def test_the_table(self):
        for hall, scale, table, numbers in cases(801, 60):
            check_exact(self, empty_value(scale), table.empty())
            for kind in range(len(hall)):
                for load in (0, 1, -1, 17, -17, GREAT, -GREAT, odd_load(numbers)):
                    check_exact(self, meeting_value(scale, (kind, load)), table.of((kind, load)))

    def test_values_as_the_document_writes_them(self):
        hall = Hall(PAIR)  # s a begins b, t a b, e a b ends b
        for text, values in (
                ("sums\ns 1 2\nt 0 -1\ne 5 0", (7, -3, 5)),
                ("rows 2\ns 1 2 3 4\nt 0 0 0 -1\ne 5 6 0 0", ((10, 14), (0, -3), (5, 6))),
                ("states 3\ns 1 2 0\nt 0 0 0\ne 2 1 0", ((1, 2, 0), (0, 0, 0), (2, 1, 0))),
                ("costs 2\ns 1 5 0 -5\nt 0 0 0 9\ne 1 1 1 1", (((1, 5), (0, -5)), ((0, 0), (0, 9)), ((1, 1), (1, 1)))),
                ("turns 9\ns 8 0\nt 0 3\ne 1 1", ((8, 0), (0, 3), (1, 1))),
                ("places 3\ns 2 0 1\nt 0 1 2\ne 1 0 2", ((2, 0, 1), (0, 1, 2), (1, 0, 2))),
                ("sets\ns\nt a b\ne begins", ((), ("a", "b"), ("begins",))),
                ("both\nsums\ns 0 1\nt 1 1\ne 0 0\nand\nsets\ns u\nt\ne u v\nend",
                 ((3, ("u",)), (4, ()), (0, ("u", "v"))))):
            check_exact(self, tuple(meeting_value(Scale(hall, text), (kind, 3)) for kind in range(3)), values)

    def test_waits_have_the_hand_that_is_begun(self):
        scale = Scale(Hall("hands a b c\ntaken a b\nright c a\nmeet n a begins c\nmeet m b"), "waits\nn 2\nm -1")
        check_exact(self, meeting_value(scale, (0, 1)), ((3, None, 3), (None, 0, None), (3, None, 3)))
        check_exact(self, meeting_value(scale, (1, 0)), ((0, None, None), (None, -1, None), (None, None, 0)))
        check_exact(self, empty_value(scale), ((0, None, None), (None, 0, None), (None, None, 0)))

    def test_wrong_meetings(self):
        for _, scale, _, _ in cases(802, 3):
            for value in NO_MEETINGS + (((0, 0),), [0, 0], (len(scale.hall), 0)):
                check_error(self, "BadMeeting", value, meeting_value, scale, value)

    def test_scales_that_clash_have_values_too(self):
        scale = Scale(Hall(FREE), "states 2\nx 1 1\ny 0 0\nz 0 1")
        check_exact(self, [empty_value(scale), meeting_value(scale, (0, 9)), combined_values(scale, (1, 1), (0, 0))],
                    [(0, 1), (1, 1), (0, 0)])


class CombiningTest(unittest.TestCase):
    def test_beside_the_table(self):
        for hall, scale, table, numbers in cases(803, 60):
            for _ in range(8):
                one, other = odd_value(numbers, table, hall), odd_value(numbers, table, hall)
                check_exact(self, combined_values(scale, one, other), table.combined(one, other))

    def test_the_empty_value_changes_nothing(self):
        for hall, scale, table, numbers in cases(804, 40):
            value, empty = odd_value(numbers, table, hall), empty_value(scale)
            check_exact(self, combined_values(scale, value, empty), value)
            check_exact(self, combined_values(scale, empty, value), value)

    def test_which_two_of_three_come_first(self):
        for hall, scale, table, numbers in cases(805, 40):
            one, other, third = [odd_value(numbers, table, hall) for _ in range(3)]
            check_exact(self, combined_values(scale, combined_values(scale, one, other), third),
                        combined_values(scale, one, combined_values(scale, other, third)))

    def test_waits_below_0_and_none(self):
        scale = Scale(Hall(TWO), "waits\nx 0\ny 0\nz 0")
        for one, other, told in (
                (((None, None), (None, None)), ((5, 5), (5, 5)), ((None, None), (None, None))),
                (((-5, None), (-3, 2)), ((-1, -9), (4, None)), ((-6, -14), (6, -12))),
                (((0, 1), (None, 0)), ((0, None), (-1, 0)), ((0, 1), (-1, 0)))):
            check_exact(self, combined_values(scale, one, other), told)

    def test_by_names_and_nothing_changes(self):
        scale = Scale(Hall(TWO), "both\nsums\nx 1 1\ny 0 0\nz 0 0\nand\nsets\nx u\ny v\nz\nend")
        one, other = (5, ("u",)), (-2, ("u", "v"))
        check_exact(self, combined_values(other=other, scale=scale, one=one), (3, ("u", "v")))
        check_exact(self, [one, other], [(5, ("u",)), (-2, ("u", "v"))])
        check_exact(self, meeting_value(meeting=(0, 4), scale=scale), (5, ("u",)))
        check_exact(self, empty_value(scale=scale), (0, ()))


LONG = nested(60, lambda value: (value,))
# For each text of a scale of TWO, values of it, and values that are none of it.
RIGHT_AND_WRONG = {
    "sums\nx 0 0\ny 0 0\nz 0 0": ((0, -1, GREAT, -GREAT), ((0,), [0], True, False, None, "0", (), {0: 0}, LONG)),
    "rows 2\nx 0 0 0 0\ny 0 0 0 0\nz 0 0 0 0": (
        ((0, 0), (-1, GREAT)), ((), (0,), (0, 0, 0), [0, 0], (0, True), (False, 0), (0, None), (0, (0,)), 0, "00")),
    "states 2\nx 0 0\ny 0 0\nz 0 0": (
        ((0, 0), (1, 0), (1, 1)),
        ((), (0,), (0, 0, 0), [0, 1], (0, 2), (-1, 0), (0, True), (0, None), (0, "1"), (0, (1,)), (0, GREAT), 0)),
    "costs 2\nx 0 0 0 0\ny 0 0 0 0\nz 0 0 0 0": (
        (((0, 0), (1, 0)), ((1, -GREAT), (1, 5))),
        ((), ((0, 0),), ((0, 0), (2, 0)), ((0, 0), (-1, 0)), ((0, 0), [1, 0]), [(0, 0), (1, 0)], ((0, 0), (1,)),
         ((0, 0), (1, 0, 0)), ((0, True), (1, 0)), ((False, 0), (1, 0)), ((0, 0), (1, None)), (0, 0, 1, 0),
         ((0, 0), (1, 0), (1, 0)), ((0, 0), 1), 0)),
    "turns 3\nx 0 0\ny 0 0\nz 0 0": (
        ((0, 0), (2, 2), (1, 0)),
        ((), (1,), (1, 0, 0), [1, 0], (3, 0), (0, 3), (-1, 0), (0, -1), (True, 0), (1, False), (None, 0), (1, "0"), 1)),
    "places 3\nx 0 1 2\ny 0 1 2\nz 0 1 2": (
        ((0, 1, 2), (2, 0, 1)),
        ((), (0, 1), (0, 1, 2, 2), (0, 0, 1), (1, 2, 3), (0, 1, -1), [0, 1, 2], (0, True, 2), (False, 1, 2),
         (0, 1, None), (0, 1, "2"), (0, 1, (2,)), 3)),
    "waits\nx 0\ny 0\nz 0": (
        (((0, None), (None, 0)), ((-3, GREAT), (None, None))),
        ((), ((0, None),), ((0, None), (None, 0), (0, 0)), ((0,), (0,)), ((0, None, 0), (0, None, 0)),
         [(0, None), (None, 0)], ((0, None), [None, 0]), ((0, False), (None, 0)), ((0, "0"), (None, 0)),
         ((0, (0,)), (None, 0)), (0, 0), 0, None)),
    "sets\nx b d\ny\nz bb": (
        ((), ("b",), ("b", "bb", "d"), ("bb",)),
        (("d", "b"), ("b", "b"), ("x",), ("y",), ("c",), ["b"], ("b", ["d"]), "b", "", ("",), ("b", None), ("b", 0),
         (("b",),), ("b", True), (Hall(TWO),), ({},), {"b": 0}, 0)),
}


class WrongValuesTest(unittest.TestCase):
    def check(self, scale, right, wrong):
        for value in right:
            combined_values(scale, value, right[0])
            combined_values(scale, right[0], value)
        for value in wrong + (LONG, Hall(TWO), nested(60, lambda value: [value])):
            check_error(self, "BadValue", value, combined_values, scale, value, right[0])
            check_error(self, "BadValue", value, combined_values, scale, right[0], value)
            check_error(self, "BadValue", value, combined_values, scale, value, wrong[0])

    def test_each_first_word(self):
        for text, (right, wrong) in RIGHT_AND_WRONG.items():
            self.check(Scale(Hall(TWO), text), right, wrong)

    def test_both(self):
        texts = list(RIGHT_AND_WRONG)
        for place, first in enumerate(texts):
            second = texts[(place + 3) % len(texts)]
            scale = Scale(Hall(TWO), "\n".join(["both", first, "and", second, "end"]))
            mine, its = RIGHT_AND_WRONG[first], RIGHT_AND_WRONG[second]
            right = [(one, other) for one, other in zip(mine[0], its[0])]
            wrong = [(one, its[0][0]) for one in mine[1]] + [(mine[0][0], other) for other in its[1]]
            wrong += [(mine[0][0],), (mine[0][0], its[0][0], its[0][0]), list(right[0]), mine[0][0], ()]
            self.check(scale, right, tuple(wrong))


class FitsTest(unittest.TestCase):
    def test_beside_commuting_of_all_pairs(self):
        told = {}
        for _, scale, table, _ in cases(806, 120):
            answer = scale_fits(scale)
            check_exact(self, answer, table.fits())
            told.setdefault(scale.word, set()).add(answer[0])
        for word in ("sums", "rows", "waits", "sets"):
            self.assertEqual(told[word], {"fits"})
        for word in ("states", "costs", "turns", "places", "both"):
            self.assertEqual(told[word], {"fits", "clashes"})

    def test_scales_that_fit(self):
        for scale, table, _, _ in fitting_cases(807, 40):
            check_exact(self, scale_fits(scale), ("fits",))
            check_exact(self, table.fits(), ("fits",))

    def test_the_first_pair_of_several(self):
        hall = Hall(ALONE)  # p, q, r, s and t are strangers, each two of them
        swap, turn, same = (1, 0, 2), (1, 2, 0), (0, 1, 2)
        for rows, told in (((same, same, same, same, same), ("fits",)),
                           ((swap, same, swap, same, swap), ("fits",)),
                           ((swap, same, turn, turn, same), ("clashes", 0, 2)),
                           ((same, turn, same, swap, swap), ("clashes", 1, 3)),
                           ((same, turn, turn, swap, swap), ("clashes", 1, 3)),
                           ((same, same, same, turn, swap), ("clashes", 3, 4))):
            scale = Scale(hall, scale_text(ALONE, "places 3", lambda kind: rows[kind]))
            check_exact(self, scale_fits(scale), told)

    def test_costs_clash_by_costs_alone(self):
        hall = Hall("hands a b\ntaken a b\nmeet x a\nmeet y b")
        check_exact(self, scale_fits(Scale(hall, "costs 2\nx 1 0 1 0\ny 0 5 1 5")), ("fits",))
        check_exact(self, scale_fits(Scale(hall, "costs 2\nx 1 0 1 0\ny 0 5 1 6")), ("clashes", 0, 1))

    def test_one_of_the_texts_of_both(self):
        good = scale_text(ALONE, "turns 7", lambda kind: (kind + 1, 0))
        swap, turn, same = "1 0 2", "1 2 0", "0 1 2"
        for first, second, told in (
                ((swap, same, same, same, same), (turn, same, same, same, same), ("fits",)),
                ((swap, same, same, turn, same), (turn, same, swap, same, same), ("clashes", 0, 2)),
                ((same, same, swap, turn, same), (same, same, turn, same, swap), ("clashes", 2, 3))):
            texts = [scale_text(ALONE, "places 3", lambda kind: rows[kind].split()) for rows in (first, second)]
            for given in ((good, *texts), (*texts, good), (texts[1], good, texts[0])):
                scale = Scale(Hall(ALONE), "\n".join(["both", "\nand\n".join(given), "end"]))
                check_exact(self, scale_fits(scale), told)

    def test_it_is_asked_by_lots_alone(self):
        hall = Hall("hands a b\ntaken a\nright b a\nmeet x a\nmeet y b")  # y can never be
        check_exact(self, scale_fits(Scale(hall, "states 2\nx 1 1\ny 0 0")), ("clashes", 0, 1))
        hall = Hall("hands a b c\ntaken a\nright b a\nright c a\nmeet s a begins b\nmeet y c")
        check_exact(self, scale_fits(Scale(hall, "states 2\ns 1 1\ny 0 0")), ("clashes", 0, 1))
        hall = Hall("hands a b\ntaken a\nright b a\nmeet s a begins b\nmeet y b")
        check_exact(self, scale_fits(Scale(hall, "states 2\ns 1 1\ny 0 0")), ("fits",))

    def test_halls_without_strangers(self):
        scale = Scale(Hall(PAIR), "states 2\ns 1 1\nt 0 0\ne 1 0")
        check_exact(self, scale_fits(scale=scale), ("fits",))


class ValueOfTest(unittest.TestCase):
    def test_beside_combining_one_by_one(self):
        for scale, table, plain, numbers in fitting_cases(808, 60):
            weaving = plain.odd_weaving(numbers, 12, 50)
            check_exact(self, value_of(scale, weaving), table.row(weaving))
            check_exact(self, value_of(scale, ()), table.empty())

    def test_all_weavings_of_a_story(self):
        for scale, table, plain, numbers in fitting_cases(809, 40):
            weaving = plain.odd_weaving(numbers, 6, 9)
            for other in list(plain.story(weaving))[:60]:
                check_exact(self, value_of(scale, other), table.row(weaving))

    def test_errors(self):
        clashing = Scale(Hall(FREE), "states 2\nx 1 1\ny 0 0\nz 0 1")
        good = Scale(Hall(FREE), "sums\nx 1 1\ny 0 0\nz 0 1")
        for value in NO_TUPLES:
            check_error(self, "Clashes", ("clashes", 0, 1), value_of, clashing, value)
            check_error(self, "BadWeaving", -1, value_of, good, value)
            check_error(self, "Clashes", ("clashes", 0, 1), value_between, clashing, value, value, value)
            check_error(self, "BadWeaving", -1, value_between, good, value, (), ())
        for value in NO_MEETINGS:
            check_error(self, "BadWeaving", 1, value_of, good, ((0, 0), value))
            check_error(self, "BadWeaving", 0, value_between, good, (value,), None, None)
        check_error(self, "Clashes", ("clashes", 0, 1), value_of, clashing, ())
        moving = Scale(Hall(PAIR), "sums\ns 1 1\nt 1 1\ne 1 1")
        check_error(self, "BadWeaving", 2, value_of, moving, ((0, 0), (2, 0), (1, 0)))

    def test_the_longest_weavings(self):
        weaving = tuple((number % 8, GREAT - number) for number in range(400))
        for word in WORDS:
            text = fitting_text(Numbers(len(word)), EIGHT, word)
            check_exact(self, value_of(weaving=weaving, scale=Scale(Hall(EIGHT), text)),
                        Table(EIGHT, text).row(weaving))


class ValueBetweenTest(unittest.TestCase):
    def test_rising_sets(self):
        for scale, table, plain, numbers in fitting_cases(810, 40):
            weaving = plain.odd_weaving(numbers, 9, 50)
            pasts = plain.pasts(weaving)
            chain = [set()]
            for number in numbers.some_of(range(len(weaving)), len(weaving)):
                chain.append(chain[-1] | pasts[number])
            sets = [tuple(sorted(numbers)) for numbers in chain]
            for place, inner in enumerate(sets):
                for outer in sets[place:]:
                    told = table.row([weaving[number] for number in outer if number not in inner])
                    check_exact(self, value_between(scale, weaving, inner, outer), told)
            total = table.empty()
            for inner, outer in zip(sets, sets[1:]):
                total = table.combined(total, value_between(scale, weaving, inner, outer))
            if sets[-1] == tuple(range(len(weaving))):
                check_exact(self, total, value_of(scale, weaving))

    def test_all_sets_of_numbers(self):
        weaving = ((0, 1), (1, 2), (2, 4), (0, 8), (1, 16))
        scale = Scale(Hall(FREE), "sums\nx 0 1\ny 0 1\nz 0 1")
        pasts = Plain(FREE).pasts(weaving)
        beginnings = []
        for bits in range(32):
            numbers = tuple(number for number in range(5) if bits >> number & 1)
            if all(pasts[number] <= set(numbers) for number in numbers):
                beginnings.append(numbers)
            else:
                check_error(self, "BadNumbers", numbers, value_between, scale, weaving, numbers, (0, 1, 2, 3, 4))
                check_error(self, "BadNumbers", numbers, value_between, scale, weaving, (), numbers)
        self.assertGreater(len(beginnings), 5)
        for inner in beginnings:
            for outer in beginnings:
                if set(inner) <= set(outer):
                    told = sum(1 << number for number in outer if number not in inner)
                    check_exact(self, value_between(scale, weaving, inner, outer), told)
                else:
                    check_error(self, "BadNumbers", outer, value_between, scale, weaving, inner, outer)

    def test_wrong_numbers(self):
        weaving = ((0, 1), (1, 2), (2, 4))
        scale = Scale(Hall(FREE), "sums\nx 0 1\ny 0 1\nz 0 1")
        for value in NO_TUPLES + ([0, 1], (1, 0), (0, 0), (0, 1, 1), (3,), (0, 3), (-1,), (True,), (False,), (0, True),
                                  (None,), ("0",), ((0,),), (0, (1,)), (GREAT,), (2,), (0, 2), (1, 2)):
            check_error(self, "BadNumbers", value, value_between, scale, weaving, value, (0, 1, 2))
            check_error(self, "BadNumbers", value, value_between, scale, weaving, (), value)
            check_error(self, "BadNumbers", value, value_between, scale, weaving, value, None)
            check_error(self, "BadWeaving", 1, value_between, scale, ((0, 0), None), value, value)
        check_error(self, "BadNumbers", (1,), value_between, scale, weaving, (0,), (1,))
        check_error(self, "BadNumbers", (), value_between, scale, weaving, (0,), ())

    def test_by_names(self):
        scale = Scale(Hall(FREE), "sums\nx 0 1\ny 0 1\nz 0 1")
        given = ((0, 1), (1, 2), (2, 4))
        check_exact(self, value_between(outer=(0, 1), inner=(1,), weaving=given, scale=scale), 1)
        check_exact(self, value_between(scale, given, (0, 1, 2), (0, 1, 2)), 0)
        check_exact(self, value_between(scale, (), (), ()), 0)


def plain_triples(hall_text, one, other, most):
    """The least weavings of all triples in their sequence, each with its triple; None if more than most come."""
    plain = Plain(hall_text)
    seen = {}
    level = [((), one.empty(), other.empty(), plain.start())]
    found = []
    while level:
        further = []
        for kinds, mine, its, state in sorted(level, key=lambda told: told[0]):
            triple = (mine, its, plain.standing(state))
            if triple in seen:
                continue
            seen[triple] = True
            found.append((tuple((kind, 0) for kind in kinds), triple))
            if len(found) > most:
                return None
            for kind in plain.next_kinds(state):
                further.append((kinds + (kind,), one.combined(mine, one.of((kind, 0))),
                                other.combined(its, other.of((kind, 0))), plain.behind(state, kind)))
        level = further
    return found


def plain_tells(hall_text, one, other):
    found = plain_triples(hall_text, one, other, 400)
    if found is None:
        return None
    for place, (second, (mine, its, _)) in enumerate(found):
        for first, (value, told, _) in found[:place]:
            if value == mine and told != its:
                return ("parts", first, second)
    return ("tells", len(found))


class TellsTest(unittest.TestCase):
    def test_beside_plain_going(self):
        numbers = Numbers(811)
        told = {"tells": 0, "parts": 0, None: 0}
        for place in range(260):
            text = numbers.one_of(TEXTS) if place % 2 else odd_hall_text(numbers)
            words = [numbers.one_of(("states", "turns", "places", "sets")) for _ in range(2)]
            texts = [fitting_text(numbers, text, word) for word in words]
            if numbers.below(4) == 0:
                texts[1] = texts[0] if numbers.below(2) else "\n".join(["both", texts[1], "and", texts[0], "end"])
            one, other = [Scale(Hall(text), given) for given in texts]
            if scale_fits(one) != ("fits",) or scale_fits(other) != ("fits",):
                continue
            answer = plain_tells(text, Table(text, texts[0]), Table(text, texts[1]))
            if answer is None:
                check_error(self, "TooMany", 400, scale_tells, one, other)
            else:
                check_exact(self, scale_tells(one, other), answer)
            told[None if answer is None else answer[0]] += 1
        self.assertGreater(min(told.values()), 9)

    def test_weavings_by_length_then_as_python_sorts(self):
        hall = Hall("hands a b\ntaken a b\nmeet x a\nmeet y b\nmeet z a b")
        for one, other, told in (
                ("places 2\nx 0 1\ny 1 0\nz 1 0", "states 3\nx 0 1 2\ny 1 2 0\nz 1 2 0",
                 ("parts", (), ((1, 0), (1, 0)))),
                ("places 2\nx 0 1\ny 1 0\nz 1 0", "places 2\nx 0 1\ny 1 0\nz 0 1", ("parts", ((1, 0),), ((2, 0),))),
                ("sets\nx u\ny u\nz v", "sets\nx p\ny q\nz", ("parts", ((0, 0),), ((1, 0),))),
                ("sets\nx u\ny u\nz v", "sets\nx\ny\nz v", ("tells", 4)),
                ("turns 5\nx 1 1\ny 1 2\nz 1 0", "turns 5\nx 1 3\ny 1 1\nz 1 0", ("tells", 5)),
                ("turns 5\nx 1 1\ny 1 2\nz 1 0", "turns 5\nx 1 3\ny 1 3\nz 1 0",
                 ("parts", ((1, 0),), ((0, 0), (0, 0))))):
            check_exact(self, scale_tells(Scale(hall, one), Scale(hall, other)), told)

    def test_standings_count(self):
        scale = Scale(Hall(PAIR), "sets\ns\nt\ne")
        check_exact(self, scale_tells(scale, scale), ("tells", 2))
        scale = Scale(Hall(PAIR), "sets\ns u\nt\ne")
        check_exact(self, scale_tells(one=scale, other=scale), ("tells", 3))

    def test_four_hundred_triples_and_one_more(self):
        # x alone can be: there are as many triples as both turns have together.
        hall = Hall("hands a b\ntaken a\nright b a\nmeet x a")
        for one, other, many in ((16, 25, 400), (80, 5, 80), (20, 20, 20), (99, 4, 396)):
            first, second = Scale(hall, f"turns {one}\nx 1 1"), Scale(hall, f"turns {other}\nx 1 1")
            answer = scale_tells(first, second)
            if one % other == 0:
                check_exact(self, answer, ("tells", many))
            else:
                check_exact(self, answer, ("parts", (), ((0, 0),) * one))
        both = Scale(hall, "both\nturns 16\nx 1 1\nand\nturns 25\nx 1 1\nend")
        check_exact(self, scale_tells(both, both), ("tells", 400))
        # That they are too many is told whatever else is so.
        chain = "both\nturns 99\nx 1 1\nand\nturns 98\nx 1 1\nend"
        check_error(self, "TooMany", 400, scale_tells, Scale(hall, chain), Scale(hall, "sets\nx"))
        check_error(self, "TooMany", 400, scale_tells, Scale(hall, "sets\nx"), Scale(hall, chain))

    def test_just_400_and_401_with_two_kinds(self):
        hall = Hall("hands a b\ntaken a b\nmeet x a\nmeet y b")
        for one, other, many in ((20, 20, 400), (8, 50, 400), (21, 20, 420), (13, 31, 403), (7, 57, 399)):
            scale = Scale(hall, f"both\nturns {one}\nx 1 1\ny 1 0\nand\nturns {other}\nx 1 0\ny 1 1\nend")
            if many <= 400:
                check_exact(self, scale_tells(scale, scale), ("tells", many))
            else:
                check_error(self, "TooMany", 400, scale_tells, scale, scale)

    def test_errors_in_their_order(self):
        hall = Hall(FREE)
        texts = {"sums": "sums\nx 0 1\ny 0 1\nz 0 1", "rows": "rows 1\nx 0 1\ny 0 1\nz 0 1",
                 "costs": "costs 1\nx 0 1\ny 0 1\nz 0 1", "waits": "waits\nx 1\ny 1\nz 1",
                 "clash": "states 2\nx 1 1\ny 0 0\nz 0 1", "other": "places 3\nx 1 0 2\ny 1 2 0\nz 0 2 1",
                 "sets": "sets\nx\ny\nz"}
        texts["mixed"] = "\n".join(["both", texts["sets"], "and", texts["sums"], "end"])
        texts["finite"] = "\n".join(["both", texts["sets"], "and", texts["clash"], "end"])
        scales = {name: Scale(hall, text) for name, text in texts.items()}
        for endless in ("sums", "rows", "costs", "waits", "mixed"):
            for name in scales:
                check_error(self, "NotFinite", 0, scale_tells, scales[endless], scales[name])
            for name in ("clash", "other", "sets", "finite"):
                check_error(self, "NotFinite", 1, scale_tells, scales[name], scales[endless])
        for one in ("clash", "finite"):
            for other in ("sets", "other", "clash"):
                check_error(self, "Clashes", ("clashes", 0, 1), scale_tells, scales[one], scales[other])
        check_error(self, "Clashes", ("clashes", 0, 1), scale_tells, scales["sets"], scales["finite"])
        check_error(self, "Clashes", ("clashes", 0, 1), scale_tells, scales["sets"], scales["clash"])
        far = Scale(Hall(ALONE), scale_text(ALONE, "places 3", lambda kind: ((1, 0, 2), (1, 0, 2), (1, 2, 0), (0, 1, 2),
                                                                              (0, 1, 2))[kind]))
        near = Scale(Hall(ALONE), scale_text(ALONE, "states 2", lambda kind: ((1, 1), (0, 0))[kind % 2]))
        check_error(self, "Clashes", ("clashes", 0, 2), scale_tells, far, near)
        check_error(self, "Clashes", ("clashes", 0, 1), scale_tells, near, far)

    def test_large_halls(self):
        for text in (EIGHT, *MOVING_TEXTS, COMING, ROW, THREE, CHAIN):
            numbers = Numbers(len(text))
            one, other = [fitting_text(numbers, text, word) for word in ("states", "sets")]
            answer = plain_tells(text, Table(text, one), Table(text, other))
            given = (Scale(Hall(text), one), Scale(Hall(text), other))
            if answer is None:
                self.assertEqual(error_of(scale_tells, *given), ("TooMany", 400))
            else:
                check_exact(self, scale_tells(*given), answer)

    def test_kinds_of_the_hall(self):
        self.assertEqual(kind_names(CHAIN), ["x", "y", "z"])


if __name__ == "__main__":
    unittest.main()
