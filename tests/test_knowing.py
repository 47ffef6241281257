"""Point 11: what hands surely know, alone and together, what is common to them, who can always tell."""

import itertools
import unittest

from meetbooks.fair import scale_of
from meetbooks.halls import Hall
from meetbooks.knowing import are_alike, comes_to_know, common_word, knows, knows_by, settled, tellers
from meetbooks.rules import Rule
from tests.plain import (
    AWAY, CHAIN, COMING, EIGHT, EXAMPLE, GREAT, HEIRS, MOVING_TEXTS, NO_INTEGERS, NO_MEETINGS, NO_TUPLES, PAIR, ROW,
    STILL_TEXTS, TEXTS, THREE, TWO, Numbers, Plain, check_error, check_exact, error_of, odd_hall_text)
from tests.plain_books import Play, odd_kind
from tests.plain_knowing import Going, fair_rule, views_told
from tests.plain_rules import FAIR_FORTY, FAIR_FORTY_ONE, names_of, plain_machine
from tests.test_books import RELAY, lots_of

LARGE = "?*,x,?,?,?,?,?,?"


def cases(seed, many, longest):
    """(hall's text, rule's text, going, weaving, numbers)."""
    numbers = Numbers(seed)
    for place in range(many):
        hall_text = numbers.one_of(TEXTS) if place % 3 else odd_hall_text(numbers, 2 + numbers.below(2))
        text = fair_rule(numbers, hall_text)
        weaving = Plain(hall_text).odd_weaving(numbers, numbers.below(longest + 1), 3)
        yield hall_text, text, Going(hall_text, text), weaving, numbers


class KnowsTest(unittest.TestCase):
    def test_beside_plain_going(self):
        told = {"surely": 0, "open": 0}
        for hall_text, text, going, weaving, _ in cases(951, 160, 8):
            rule = Rule(Hall(hall_text), text)
            for hands in lots_of(going.here(weaving))[1:]:
                answer = knows(rule, weaving, hands)
                check_exact(self, answer, going.knows(weaving, hands))
                told[answer[0]] += 1
        self.assertGreater(min(told.values()), 150)

    def test_straight_from_the_definition(self):
        # Whatever is alike to hands is their joined view and meetings without them: all short such rows.
        for hall_text, text, going, weaving, _ in cases(952, 60, 5):
            rule = Rule(Hall(hall_text), text)
            for hands in lots_of(going.here(weaving))[1:]:
                answer = knows(rule, weaving, hands)
                seen = self.short_rows_behind(going, going.joined(weaving, hands), going.without(hands), 3)
                if answer[0] == "surely":
                    self.assertEqual({let for _, let, _ in seen}, {answer[1]})
                    self.assertLessEqual({pair for _, _, pair in seen}, set(answer[2]))
                else:
                    self.check_rows(seen, answer)

    def check_rows(self, seen, answer):
        for is_let, row in ((True, answer[1]), (False, answer[2])):
            short = [other for other, let, _ in seen if let == is_let]
            if short:
                self.assertEqual(row, min(short, key=lambda other: (len(other), other)))
            else:
                self.assertGreater(len(row), 3)

    def short_rows_behind(self, going, meetings, kinds, longest):
        seen = []
        level = [((), going.pair(meetings))]
        for _ in range(longest + 1):
            further = []
            for row, (state, hall_state) in level:
                seen.append((row, going.is_let(state), going.told((state, hall_state))))
                for kind in kinds:
                    if going.plain.told_refusal(hall_state, kind) is None:
                        further.append((row + ((kind, 0),), (going.machine[0][state][kind],
                                                             going.plain.behind(hall_state, kind))))
            level = further
        return seen

    def test_the_joined_view_is_no_beginning_of_the_weaving(self):
        hall = Hall(ROW)  # x of a and b, y of c and d, z of b and c
        rule = Rule(hall, "!(?*,y,?*)|(?*,z,?*)")
        weaving = ((1, 0), (0, 0))
        self.assertEqual(knows(rule, weaving, (0,))[0], "open")
        check_exact(self, knows(rule, weaving, (0,)), ("open", (), ((1, 0),)))
        check_exact(self, knows(rule, weaving, (0, 1)), ("open", (), ((1, 0),)))
        self.assertEqual(knows(rule, weaving, (0, 2))[:2], ("surely", False))
        self.assertEqual(knows(rule, weaving, (1, 3))[:2], ("surely", False))

    def test_everything_known_or_nothing_heard(self):
        for hall_text in (CHAIN, EXAMPLE, COMING):
            for text, let in (("?*", True), ("!?*", False)):
                rule = Rule(Hall(hall_text), text)
                for hands in lots_of(Going(hall_text, text).here(()))[1:]:
                    self.assertEqual(knows(rule, (), hands)[:2], ("surely", let))

    def test_loads_mean_nothing_and_names(self):
        rule = Rule(Hall(CHAIN), "(x|z)*,y,?*")
        for load in (0, 5, GREAT, -GREAT):
            check_exact(self, knows(hands=(0,), weaving=((0, load), (1, load)), rule=rule), ("open", ((1, 0),), ()))

    def test_wrong_hands(self):
        still, moving = Rule(Hall(CHAIN), "?*,x,?*"), Rule(Hall(PAIR), "?*,s,?*")
        gone = ((0, 0), (2, 0))
        for call in (knows, common_word):
            for value in NO_TUPLES + ((), (1, 0), (0, 0), (0, 1, 1), (3,), (-1,), (0, 3), (True,), (0, True), (None,),
                                      ("0",), ((0,),), [0], (GREAT,), (0, 1, 2, 3)):
                check_error(self, "BadHands", value, call, still, ((0, 0),), value)
            for value in NO_INTEGERS:
                check_error(self, "BadHands", (value,), call, still, ((0, 0),), (value,))
            for weaving in ((), gone):
                for hands in ((1,), (0, 1)):
                    check_error(self, "BadHands", hands, call, moving, weaving, hands)
            self.assertIsNone(error_of(call, moving, ((0, 0),), (1,)))
            for value in NO_TUPLES:
                check_error(self, "BadWeaving", -1, call, still, value, None)
            for value in NO_MEETINGS:
                check_error(self, "BadWeaving", 1, call, still, ((0, 0), value), ())


class KnowsByTest(unittest.TestCase):
    def test_beside_knows(self):
        numbers = Numbers(953)
        for place in range(90):
            hall_text = numbers.one_of(TEXTS + (RELAY,)) if place % 3 else odd_hall_text(numbers)
            text = fair_rule(numbers, hall_text)
            rule = Rule(Hall(hall_text), text)
            play = Play(hall_text, scale_of(rule))
            for _ in range(14):
                kind = odd_kind(play, numbers)
                if kind is None:
                    break
                play.meet(kind, numbers.below(4))
                for hands in lots_of(play.here())[1:]:
                    if numbers.below(3) == 0:
                        books = tuple(play.books[hand] for hand in hands)
                        check_exact(self, knows_by(rule, hands, books), knows(rule, tuple(play.weaving), hands))

    def test_ahead_of_all_meetings(self):
        for hall_text in TEXTS:
            rule = Rule(Hall(hall_text), "(?,?)*")
            play = Play(hall_text, scale_of(rule))
            for hands in lots_of(play.here())[1:]:
                books = tuple(play.books[hand] for hand in hands)
                check_exact(self, knows_by(books=books, rule=rule, hands=hands), knows(rule, (), hands))

    def test_wrong_hands_and_books(self):
        rule = Rule(Hall(CHAIN), "?*,x,?*")
        books = tuple(Play(CHAIN, scale_of(rule)).books)
        for value in NO_TUPLES + ((), (1, 0), (0, 0), (3,), (True,), (None,), [0], (0, 1, 2, 3)):
            check_error(self, "BadHands", value, knows_by, rule, value, books)
            check_error(self, "BadHands", value, knows_by, rule, value, None)
        for value in NO_TUPLES + ((), books[:1], books, list(books[:2]), (books[0], None), (None, books[1]),
                                  (books[0], list(books[1])), (books[0], 0)):
            check_error(self, "BadBooks", value, knows_by, rule, (0, 1), value)


class SettledTest(unittest.TestCase):
    def test_beside_plain_going(self):
        told = set()
        for hall_text, text, going, weaving, _ in cases(954, 140, 8):
            answer = settled(Rule(Hall(hall_text), text), weaving)
            check_exact(self, answer, going.settled(weaving))
            told.add(answer[:1] if answer[0] == "open" else answer[:2])
        self.assertEqual(told, {("open",), ("surely", True), ("surely", False)})

    def test_by_names_and_wrong_weavings(self):
        rule = Rule(Hall(CHAIN), "?*,y,?*")
        check_exact(self, settled(weaving=((2, 0),), rule=rule), ("open", ((1, 0),), ()))
        self.assertEqual(settled(rule, ((1, 9),))[:2], ("surely", True))
        for value in NO_TUPLES:
            check_error(self, "BadWeaving", -1, settled, rule, value)
        for value in NO_MEETINGS:
            check_error(self, "BadWeaving", 0, settled, rule, (value,))


class ComesToKnowTest(unittest.TestCase):
    def test_beside_the_definition(self):
        found = 0
        for hall_text, text, going, weaving, _ in cases(955, 110, 9):
            answer = comes_to_know(Rule(Hall(hall_text), text), weaving)
            check_exact(self, answer, going.comes_to_know(weaving))
            found += len(answer)
        self.assertGreater(found, 80)

    def test_hands_that_were_away(self):
        numbers = Numbers(956)
        found = 0
        for place in range(60):
            hall_text = numbers.one_of(MOVING_TEXTS + (RELAY,))
            text = fair_rule(numbers, hall_text)
            going = Going(hall_text, text)
            weaving = going.plain.odd_weaving(numbers, 12)
            answer = comes_to_know(weaving=weaving, rule=Rule(Hall(hall_text), text))
            check_exact(self, answer, going.comes_to_know(weaving))
            found += sum(hand not in going.here(weaving[:number]) for number, hand in answer)
        self.assertGreater(found, 15)
        # b is sure of all from the first on, but is away ahead of the meeting 0.
        check_exact(self, comes_to_know(Rule(Hall(PAIR), "?*"), ((0, 0), (1, 0), (2, 0), (0, 0))), ((0, 1), (3, 1)))

    def test_the_empty_weaving_and_wrong_ones(self):
        rule = Rule(Hall(CHAIN), "?*,y,?*")
        check_exact(self, comes_to_know(rule, ()), ())
        # Without y, both b and c are sure that there was none; so y makes nobody sure that was not.
        check_exact(self, comes_to_know(rule, ((1, 0),)), ())
        for value in NO_TUPLES:
            check_error(self, "BadWeaving", -1, comes_to_know, rule, value)
        for value in NO_MEETINGS:
            check_error(self, "BadWeaving", 0, comes_to_know, rule, (value,))


class AreAlikeTest(unittest.TestCase):
    def test_beside_the_views(self):
        numbers = Numbers(957)
        told = {"alike": 0, "parts": 0}
        for place in range(150):
            hall_text = TEXTS[place % len(TEXTS)] if place % 2 else odd_hall_text(numbers)
            plain = Plain(hall_text)
            one = plain.odd_weaving(numbers, 7, 2)
            other = self.near(plain, one, numbers)
            going = Going(hall_text, "?*")
            here = [hand for hand in going.here(one) if hand in going.here(other)]
            for hands in lots_of(here)[1:]:
                unlike = [hand for hand in hands if views_told(plain, one, hand) != views_told(plain, other, hand)]
                answer = are_alike(Hall(hall_text), one, other, hands)
                check_exact(self, answer, ("parts", unlike[0]) if unlike else ("alike",))
                told[answer[0]] += 1
        self.assertGreater(min(told.values()), 100)

    def near(self, plain, weaving, numbers):
        """A weaving that is of the same story, or goes on otherwise, or has another load."""
        story = list(plain.story(weaving))
        other = numbers.one_of(story)
        way = numbers.below(4)
        if way == 0:
            return other[:max(0, len(other) - 1 - numbers.below(3))]
        if way == 1 and other:
            place = numbers.below(len(other))
            return other[:place] + ((other[place][0], other[place][1] + 1),) + other[place + 1:]
        kinds = plain.next_kinds(plain.state_behind(other))
        return other + ((numbers.one_of(kinds), 0),) if way == 2 and kinds else other

    def test_all_short_weavings(self):
        plain, hall = Plain(CHAIN), Hall(CHAIN)
        weavings = [tuple((kind, 0) for kind in row) for many in range(4) for row in plain.kinds_of(many)]
        for one, other in itertools.product(weavings, weavings[:14]):
            for hands in ((0,), (1,), (2,), (0, 2), (0, 1, 2)):
                unlike = [hand for hand in hands if views_told(plain, one, hand) != views_told(plain, other, hand)]
                check_exact(self, are_alike(hall, one, other, hands), ("parts", unlike[0]) if unlike else ("alike",))

    def test_errors_in_their_order(self):
        hall = Hall(PAIR)
        here, gone = ((0, 0),), ((0, 0), (2, 0))
        for value in NO_TUPLES:
            check_error(self, "BadWeaving", -1, are_alike, hall, value, None, None)
            check_error(self, "BadWeaving", -1, are_alike, hall, here, value, None)
        for value in NO_MEETINGS:
            check_error(self, "BadWeaving", 0, are_alike, hall, (value,), (value,), ())
            check_error(self, "BadWeaving", 1, are_alike, hall, here, here + (value,), (5,))
        for value in NO_TUPLES + ((), (1, 0), (0, 0), (2,), (-1,), (True,), (False, 1), (None,), [0], ((0,),)):
            check_error(self, "BadHands", value, are_alike, hall, here, here, value)
        for one, other in ((here, gone), (gone, here), (gone, gone), ((), here)):
            check_error(self, "BadHands", (1,), are_alike, hall, one, other, (1,))
            check_error(self, "BadHands", (0, 1), are_alike, hall, one, other, (0, 1))
        check_exact(self, are_alike(hands=(0, 1), other=here, one=here, hall=hall), ("alike",))


class CommonWordTest(unittest.TestCase):
    def test_beside_plain_going(self):
        told = {"surely": 0, "open": 0}
        for hall_text, text, going, weaving, _ in cases(958, 130, 8):
            rule = Rule(Hall(hall_text), text)
            for hands in lots_of(going.here(weaving))[1:]:
                answer = common_word(rule, weaving, hands)
                check_exact(self, answer, going.common_word(weaving, hands))
                told[answer[0]] += 1
                if len(hands) == 1:
                    check_exact(self, answer, knows(rule, weaving, hands))
        self.assertGreater(min(told.values()), 100)

    def test_by_turns_in_still_halls(self):
        # What holds of all weavings to which one comes by turns, each alike to one of these hands to the one ahead.
        numbers = Numbers(959)
        for hall_text in (TWO, CHAIN, THREE):
            plain = Plain(hall_text)
            weavings = [tuple((kind, 0) for kind in row) for many in range(6) for row in plain.kinds_of(many)]
            for _ in range(4):
                text = fair_rule(numbers, hall_text)
                going = Going(hall_text, text)
                groups = {}
                for weaving in weavings:
                    for hand in range(len(plain.hands)):
                        groups.setdefault((hand, views_told(plain, weaving, hand)), []).append(weaving)
                for hands in ((0, 1), tuple(range(len(plain.hands)))):
                    weaving = plain.odd_weaving(numbers, 2, 1)
                    seen, queue = {weaving}, [weaving]
                    for one in queue:
                        for hand in hands:
                            for other in groups[hand, views_told(plain, one, hand)]:
                                if other not in seen:
                                    seen.add(other)
                                    queue.append(other)
                    answer = common_word(Rule(Hall(hall_text), text), weaving, hands)
                    let = {going.is_let(going.pair(other)[0]) for other in seen}
                    if answer[0] == "surely":
                        self.assertEqual(let, {answer[1]})
                    elif len(let) == 1:
                        self.assertGreater(max(len(answer[1]), len(answer[2])), 2)

    def test_by_names(self):
        rule = Rule(Hall(CHAIN), "(x|z)*,y,?*")
        check_exact(self, common_word(hands=(0, 2), rule=rule, weaving=((1, 0), (0, 0))), ("open", ((1, 0),), ()))


class TellersTest(unittest.TestCase):
    def plain_tellers(self, hall_text, text):
        going = Going(hall_text, text)
        found = going.all_from(going.pair(()), going.kinds)
        here = going.here(())
        lots = sorted(lots_of(here), key=lambda lot: (len(lot), lot))

        def turned(lot):
            steps = []
            for row, (state, hall_state) in found.values():
                for kind in going.without(lot):
                    if going.plain.told_refusal(hall_state, kind) is None:
                        if going.is_let(state) != going.is_let(going.machine[0][state][kind]):
                            steps.append((len(row), row, kind))
            return min(steps, default=None)

        tells = {lot: turned(lot) is None for lot in lots}
        least = tuple(lot for lot in lots if tells[lot] and not any(tells[one] for one in lots if set(one) < set(lot)))
        others = []
        for lot in lots:
            if not tells[lot] and all(tells[tuple(sorted(lot + (hand,)))] for hand in here if hand not in lot):
                others.append((lot, *turned(lot)[1:]))
        return least, tuple(others)

    def test_beside_all_lots(self):
        numbers = Numbers(960)
        for place in range(150):
            hall_text = numbers.one_of(STILL_TEXTS)
            text = fair_rule(numbers, hall_text)
            check_exact(self, tellers(Rule(Hall(hall_text), text)), self.plain_tellers(hall_text, text))

    def test_behind_every_weaving(self):
        # Straight from the definition, behind all short weavings.
        numbers = Numbers(961)
        for _ in range(30):
            hall_text = numbers.one_of((TWO, CHAIN, AWAY))
            text = fair_rule(numbers, hall_text)
            rule, going = Rule(Hall(hall_text), text), Going(hall_text, text)
            weavings = [tuple((kind, 0) for kind in row) for many in range(4) for row in going.plain.kinds_of(many)]
            least, others = tellers(rule)
            for hands in lots_of(going.here(()))[1:]:
                if any(set(lot) <= set(hands) for lot in least):
                    for weaving in weavings:
                        self.assertEqual(knows(rule, weaving, hands)[0], "surely")
            for lot, weaving, kind in others:
                self.assertNotEqual(going.is_let(going.pair(weaving)[0]),
                                    going.is_let(going.pair(weaving + ((kind, 0),))[0]))
                if lot:
                    self.assertEqual(knows(rule, weaving, lot)[0], "open")

    def test_all_or_none(self):
        for hall_text in STILL_TEXTS:
            for text in ("?*", "!?*", "-|?,?*"):
                check_exact(self, tellers(rule=Rule(Hall(hall_text), text)), (((),), ()))

    def test_a_hand_that_is_away_at_first(self):
        hall = Hall(AWAY)  # c is away, so that z and v never are
        check_exact(self, tellers(Rule(hall, "?*,z,?*")), (((),), ()))
        check_exact(self, tellers(Rule(hall, "?*,x,?*")), (((0,),), (((1,), (), 0),)))
        check_exact(self, tellers(Rule(hall, "(?,?)*")), (((0, 1),), (((0,), (), 1), ((1,), (), 0))))

    def test_halls_that_are_not_still(self):
        for hall_text, kind in ((PAIR, 0), (EXAMPLE, 1), (COMING, 0), (HEIRS, 0)):
            rule = Rule(Hall(hall_text), "?*")
            check_error(self, "NotStill", kind, tellers, rule)
        check_error(self, "NotStill", 2, tellers, Rule(Hall("hands a b c\ntaken a b c\nmeet x a\nmeet y b\n"
                                                            "meet z a b ends b\nmeet u a b ends a"), "?*"))


class RulesTest(unittest.TestCase):
    def test_what_is_told_of_the_rule_first(self):
        hall = Hall(TWO)
        large, unfair = Rule(hall, LARGE), Rule(hall, "x,y")
        told = ("unfair", (0, 1), (1, 0))
        for call, given in ((knows, (None, None)), (knows_by, (None, None)), (settled, (None,)),
                            (comes_to_know, (None,)), (common_word, (None, None)), (tellers, ())):
            check_error(self, "TooMany", 40, call, large, *given)
            check_error(self, "NotFair", told, call, unfair, *given)
        moving = Hall("hands a b\ntaken a b\nmeet x a\nmeet y b\nmeet z a b ends b")
        check_error(self, "TooMany", 40, tellers, Rule(moving, LARGE))
        check_error(self, "NotFair", told, tellers, Rule(moving, "x,y"))
        check_error(self, "NotStill", 2, tellers, Rule(moving, "x"))
        # are_alike asks no rule.
        check_exact(self, are_alike(hall, (), (), (0,)), ("alike",))


class LimitsTest(unittest.TestCase):
    def test_forty_states_and_weavings_of_400(self):
        hall = Hall(TWO)
        rule = Rule(hall, FAIR_FORTY)
        check_error(self, "TooMany", 40, settled, Rule(hall, FAIR_FORTY_ONE), ())
        weaving = tuple((1 + number % 2, number) for number in range(399)) + ((0, 0),)
        going = Going(TWO, FAIR_FORTY)
        for hands in ((0,), (1,), (0, 1)):
            check_exact(self, knows(rule, weaving, hands), going.knows(weaving, hands))
            check_exact(self, common_word(rule, weaving, hands), going.common_word(weaving, hands))
        check_exact(self, settled(rule, weaving), going.settled(weaving))
        self.assertEqual(comes_to_know(rule, weaving)[:3], going.comes_to_know(weaving[:12])[:3])
        check_exact(self, are_alike(hall, weaving, weaving[:-1], (1,)), ("alike",))
        check_exact(self, are_alike(hall, weaving, weaving[:-1], (0, 1)), ("parts", 0))

    def test_five_hands_and_eight_kinds(self):
        numbers = Numbers(962)
        for hall_text, text in ((RELAY, "(?,?,?,?,?)*&(?,?,?,?,?,?,?)*"), (RELAY, "?*,p,?*"),
                                (EIGHT, "(?,?,?,?,?)*&(?,?,?,?,?,?,?)*"), (COMING, "(?,?,?,?,?)*&(?,?,?,?,?,?,?)*")):
            rule = Rule(Hall(hall_text), text)
            going = Going(hall_text, text)
            weaving = going.plain.odd_weaving(numbers, 400)
            self.assertEqual(len(weaving), 400)
            here = going.here(weaving)
            for hands in lots_of(here)[1:]:
                self.assertIn(knows(rule, weaving, hands)[0], ("open", "surely"))
            check_exact(self, knows(rule, weaving, here), going.knows(weaving, here))
            check_exact(self, settled(rule, weaving), going.settled(weaving))
            self.assertIsInstance(comes_to_know(rule, weaving), tuple)
            self.assertLessEqual(len(plain_machine(hall_text, text)[0]), 40)
        self.assertEqual(len(names_of(RELAY)), 8)


if __name__ == "__main__":
    unittest.main()
