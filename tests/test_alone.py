"""Point 13, alone: own rows of hands that hear nothing, and what follows from them."""

import itertools
import unittest

from meetbooks.alone import implied_row, own_lets, own_rows
from meetbooks.halls import Hall
from meetbooks.rules import Rule
from tests.plain import (
    AWAY, CHAIN, EIGHT, GREAT, LONE, MOVING_TEXTS, NO_INTEGERS, NO_TUPLES, STILL_TEXTS, TWO, Numbers, Plain,
    check_error, check_exact, error_of)
from tests.plain_knowing import fair_rule
from tests.plain_rules import FAIR_FORTY, FAIR_FORTY_ONE, explored, least, lets, names_of, plain_machine, run, tree_of

LARGE = "?*,x,?,?,?,?,?,?"
# No two kinds of these halls are strangers, so that all rules are fair.
SETS = "hands a b\ntaken a b\nmeet x a\nmeet y a\nmeet z a b"
CLOSE = "hands a b c\ntaken a b c\nmeet x a b\nmeet y a c\nmeet z a b c"


class Own:
    """Own rows by sets of states, and straight from the definition."""

    def __init__(self, hall_text, text):
        self.plain = Plain(hall_text)
        self.machine = plain_machine(hall_text, text)
        self.tree = tree_of(names_of(hall_text), text)
        here = self.plain.here
        self.able = [kind for kind, told in enumerate(self.plain.kinds) if set(told[0]) <= here]

    def of(self, hand):
        return tuple(kind for kind in range(len(self.plain.kinds)) if hand in self.plain.lot(kind))

    def spread(self, states, hand):
        found = set(states)
        queue = list(found)
        for state in queue:
            for kind in self.able:
                after = self.machine[0][state][kind]
                if hand not in self.plain.lot(kind) and after not in found:
                    found.add(after)
                    queue.append(after)
        return frozenset(found)

    def sets(self, hand):
        """The sets of states, and the rows of the machine over all kinds of the hand, of its own rows."""
        def step(states, kind):
            if kind not in self.able:
                return frozenset()
            return self.spread({self.machine[0][state][kind] for state in states}, hand)

        return explored(self.spread({0}, hand), step, self.of(hand))

    def many_sets(self, hand):
        """How many sets come, the empty one of rows that cannot be aside."""
        return len([states for states in self.sets(hand)[0] if states])

    def own_machine(self, hand):
        states, rows = self.sets(hand)
        return least(rows, [number for number, told in enumerate(states) if told & set(self.machine[1])])

    def own(self, kinds, hand):
        return tuple(kind for kind in kinds if hand in self.plain.lot(kind))

    def lets(self, kinds):
        for hand in range(len(self.plain.hands)):
            rows, good = self.own_machine(hand)
            own = self.of(hand)
            if run((rows, good), [own.index(kind) for kind in self.own(kinds, hand)]) not in good:
                return False
        return True

    def implied(self):
        """(how many tuples come, what implied_row tells)."""
        hands = range(len(self.plain.hands))
        machines = [self.own_machine(hand) for hand in hands]
        kinds = [self.of(hand) for hand in hands]

        def step(states, at):
            kind = self.able[at]
            own = [machines[hand][0][states[hand]][kinds[hand].index(kind)] if kind in kinds[hand] else states[hand]
                   for hand in hands]
            return (*own, self.machine[0][states[-1]][kind])

        states, rows = explored((0,) * (len(hands) + 1), step, range(len(self.able)))
        words = {0: ()}
        for number, row in enumerate(rows):
            for at, after in enumerate(row):
                words.setdefault(after, words[number] + (self.able[at],))
        for number, told in enumerate(states):
            if all(told[hand] in machines[hand][1] for hand in hands) and told[-1] not in self.machine[1]:
                return len(states), ("implied", words[number])
        return len(states), ("none",)


def cases(seed, many):
    numbers = Numbers(seed)
    for place in range(many):
        hall_text = numbers.one_of(STILL_TEXTS + (SETS, CLOSE))
        text = fair_rule(numbers, hall_text)
        yield Rule(Hall(hall_text), text), Own(hall_text, text), numbers


def all_rows(kinds, longest):
    return [row for many in range(longest + 1) for row in itertools.product(kinds, repeat=many)]


class OwnRowsTest(unittest.TestCase):
    def test_beside_sets_of_states(self):
        sizes = set()
        for rule, own, _ in cases(981, 200):
            for hand in range(len(rule.hall.hands)):
                if own.many_sets(hand) > 40:
                    check_error(self, "TooMany", 40, own_rows, rule, hand)
                else:
                    machine = own.own_machine(hand) if own.of(hand) else no_kinds(own, hand)
                    check_exact(self, own_rows(rule, hand), (own.of(hand), *machine))
                    sizes.add(len(machine[0]))
        self.assertGreater(len(sizes), 4)

    def test_straight_from_the_definition(self):
        for rule, own, _ in cases(982, 60):
            rows = all_rows(own.able, 6 if len(own.able) < 4 else 3)
            let = [row for row in rows if lets(own.tree, row)]
            for hand in range(len(rule.hall.hands)):
                kinds, machine_rows, good = own_rows(rule, hand)
                for row in {own.own(row, hand) for row in let}:
                    self.assertIn(run((machine_rows, good), [kinds.index(kind) for kind in row]), good)
                # Whatever is let is the own row of some row; rows of twice the length are enough for small machines.
                if len(own.machine[0]) * len(own.able) <= 9:
                    short = {own.own(row, hand) for row in all_rows(own.able, 7) if lets(own.tree, row)}
                    for row in all_rows([kind for kind in kinds if kind in own.able], 2):
                        state = run((machine_rows, good), [kinds.index(kind) for kind in row])
                        if state not in good:
                            self.assertNotIn(row, short)
                        elif len(own.machine[0]) <= 3:
                            self.assertIn(row, short)

    def test_kinds_that_can_never_be(self):
        rule = Rule(Hall(AWAY), "?*")  # c is away, so that z and v never are
        check_exact(self, own_rows(rule, 1), ((1, 3, 4), ((0, 0, 1), (1, 1, 1)), (0,)))
        check_exact(self, own_rows(rule, 2), ((2, 4), ((1, 1), (1, 1)), (0,)))
        check_exact(self, own_rows(Rule(Hall(AWAY), "?*,z,?*"), 0), ((0, 3), ((0, 0),), ()))
        check_exact(self, own_rows(Rule(Hall(AWAY), "!?*"), 2), ((2, 4), ((0, 0),), ()))
        check_exact(self, own_rows(Rule(Hall(LONE), "?*"), 1), ((0,), ((1,), (1,)), (0,)))

    def test_hands_without_kinds(self):
        check_exact(self, own_rows(Rule(Hall(LONE), "?*"), 0), ((), ((),), (0,)))
        check_exact(self, own_rows(Rule(Hall(LONE), "x,?*"), 0), ((), ((),), ()))
        hall = Hall("hands a b\ntaken a b\nmeet x a")
        check_exact(self, own_rows(Rule(hall, "x,x"), 1), ((), ((),), (0,)))

    def test_forty_sets_and_one_more(self):
        hall = Hall(CLOSE)
        for text, sets in (("!(y,?,?,x)*|(?,?,?)*", {1: 40, 2: 41}), ("(z,?,?,?)*|(?,?,y)*", {2: 40}),
                           ("((?,?,?)*,y*),(?,y)*&!(z*,(?,x)*)", {1: 41}), (FAIR_FORTY, {0: 40})):
            rule, own = Rule(hall, text), Own(CLOSE, text)
            for hand, many in sets.items():
                self.assertEqual(own.many_sets(hand), many)
            for hand in range(3):
                if own.many_sets(hand) > 40:
                    check_error(self, "TooMany", 40, own_rows, rule, hand)
                    for call, given in ((own_lets, ((),)), (own_lets, ((0, 1),)), (implied_row, ())):
                        check_error(self, "TooMany", 40, call, rule, *given)
                    check_error(self, "BadKinds", None, own_lets, rule, None)
                else:
                    check_exact(self, own_rows(hand=hand, rule=rule), (own.of(hand), *own.own_machine(hand)))

    def test_wrong_hands(self):
        rule = Rule(Hall(CHAIN), "?*")
        for value in NO_INTEGERS + (-1, 3, GREAT):
            check_error(self, "BadHand", value, own_rows, rule, value)


def no_kinds(own, hand):
    """The machine of a hand without kinds."""
    let = own.sets(hand)[0][0] & set(own.machine[1])
    return (((),), (0,) if let else ())


class OwnLetsTest(unittest.TestCase):
    def test_rows_of_any_kinds(self):
        told = {True: 0, False: 0}
        for rule, own, numbers in cases(984, 120):
            if any(own.many_sets(hand) > 40 for hand in range(len(rule.hall.hands))):
                check_error(self, "TooMany", 40, own_lets, rule, ())
                continue
            kinds = range(len(rule.hall))
            for _ in range(12):
                row = tuple(numbers.one_of(kinds) for _ in range(numbers.below(6)))
                if not all(own.of(hand) for hand in range(len(rule.hall.hands))):
                    continue
                check_exact(self, own_lets(rule, row), own.lets(row))
                told[own.lets(row)] += 1
        self.assertGreater(min(told.values()), 200)

    def test_what_the_rule_lets_has_own_rows_that_are_let(self):
        for rule, own, _ in cases(985, 60):
            for row in all_rows(own.able, 3 if len(own.able) < 5 else 2):
                if lets(own.tree, row):
                    check_exact(self, own_lets(rule, row), True)

    def test_kinds_that_can_never_be(self):
        rule = Rule(Hall(AWAY), "?*")
        check_exact(self, [own_lets(rule, row) for row in ((), (0, 1, 3), (2,), (0, 4), (1, 2, 1))],
                    [True, True, False, False, False])

    def test_names_and_long_rows(self):
        rule = Rule(Hall(TWO), "(z,z)*")
        for many in (399, 400):
            check_exact(self, own_lets(kinds=(2,) * many, rule=rule), many == 400)

    def test_wrong_rows(self):
        rule = Rule(Hall(CHAIN), "?*")
        for value in NO_TUPLES + ((3,), (-1,), (0, 3), (True,), (0, False), (None,), ("x",), ((0,),), [0], (GREAT,),
                                  ((0, 0),)):
            check_error(self, "BadKinds", value, own_lets, rule, value)


class ImpliedRowTest(unittest.TestCase):
    def test_beside_going_through_all_tuples(self):
        told = {"implied": 0, "none": 0}
        for rule, own, _ in cases(986, 220):
            hands = range(len(rule.hall.hands))
            if any(own.many_sets(hand) > 40 for hand in hands):
                check_error(self, "TooMany", 40, implied_row, rule)
                continue
            if not all(own.of(hand) for hand in hands):
                continue
            many, answer = own.implied()
            if many > 1000:
                check_error(self, "TooMany", 1000, implied_row, rule)
            else:
                check_exact(self, implied_row(rule), answer)
                told[answer[0]] += 1
        self.assertGreater(min(told.values()), 40)

    def test_the_least_shortest_row(self):
        for rule, own, _ in cases(987, 60):
            answer = implied_row(rule)
            for row in all_rows(own.able, 4 if len(own.able) < 4 else 2):
                if own_lets(rule, row) and not lets(own.tree, row):
                    check_exact(self, answer, ("implied", row))
                    break
            else:
                self.assertTrue(answer == ("none",) or len(answer[1]) > 2)

    def test_just_1000_and_more(self):
        for text, told in (("(?,?)*,z,z,?&(z,z,?)*", 1000), ("((z,x,y,?,?)*|(?,?)*)&(z,z,?)*", 1000),
                           ("?,(z,?,z)*&(?,?)*", 1001), ("((?,?)*|z,y)&(z,?,z)*", 999)):
            rule, own = Rule(Hall(CLOSE), text), Own(CLOSE, text)
            many, answer = own.implied()
            self.assertEqual(many, told)
            if many > 1000:
                check_error(self, "TooMany", 1000, implied_row, rule)
            else:
                check_exact(self, implied_row(rule), answer)

    def test_examples(self):
        check_exact(self, implied_row(Rule(Hall(TWO), "!?*")), ("none",))
        check_exact(self, implied_row(Rule(Hall(TWO), "x*")), ("none",))
        check_exact(self, implied_row(Rule(Hall(TWO), "z|x|y")), ("implied", ()))
        check_exact(self, implied_row(Rule(Hall(TWO), "(?,?)*")), ("implied", (0,)))


class RulesTest(unittest.TestCase):
    def test_what_is_told_of_the_rule_first(self):
        unfair = ("unfair", (0, 1), (1, 0))
        moving = Hall("hands a b\ntaken a b\nmeet x a\nmeet y b\nmeet z a b ends b")
        for hall in (Hall(TWO), moving):
            for call, given in ((own_rows, (None,)), (own_lets, (None,)), (implied_row, ())):
                check_error(self, "TooMany", 40, call, Rule(hall, LARGE), *given)
                check_error(self, "TooMany", 40, call, Rule(hall, FAIR_FORTY_ONE), *given)
                check_error(self, "NotFair", unfair, call, Rule(hall, "x,y"), *given)
        for call, given in ((own_rows, (None,)), (own_rows, (0,)), (own_lets, (None,)), (own_lets, ((),)),
                            (implied_row, ())):
            check_error(self, "NotStill", 2, call, Rule(moving, "x"), *given)
            for hall_text in MOVING_TEXTS:
                self.assertEqual(error_of(call, Rule(Hall(hall_text), "?*"), *given)[0], "NotStill")

    def test_large_halls(self):
        for text in ("?*,p,?*", "(?,?,?)*", "!(?*,u,?*)&!(?*,v,?*)"):
            rule, own = Rule(Hall(EIGHT), text), Own(EIGHT, text)
            for hand in range(5):
                check_exact(self, own_rows(rule, hand), (own.of(hand), *own.own_machine(hand)))
            many, answer = own.implied()
            if many <= 1000:
                check_exact(self, implied_row(rule), answer)


if __name__ == "__main__":
    unittest.main()
