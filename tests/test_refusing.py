"""Point 12: which meetings to refuse, by the weaving and by the comers' books, and refusals without need."""

import unittest

from meetbooks.books import first_books, meet
from meetbooks.fair import scale_of
from meetbooks.halls import Hall
from meetbooks.refusing import may_by_books, may_meet, needless_refusal
from meetbooks.rules import Rule
from meetbooks.scales import Scale
from meetbooks.weavings import refusal
from tests.plain import (
    AWAY, CHAIN, EIGHT, EXAMPLE, GREAT, NO_INTEGERS, NO_MEETINGS, NO_TUPLES, PAIR, ROW, TEXTS, THREE, TWO, Numbers,
    Plain, check_error, check_exact, error_of, odd_hall_text)
from tests.plain_books import Play
from tests.plain_knowing import Going, fair_rule
from tests.plain_rules import FAIR_FORTY_ONE, is_fair, lets, names_of, plain_machine, short_rows, tree_of
from tests.test_books import PAIRS, RELAY

LARGE = "?*,x,?,?,?,?,?,?"
ALTERNATE = "(x*|y*),(z,(x*|y*))*"


def lasting_told(machine):
    """The row of NotLasting, by going through pairs of a state and whether some beginning was not let; or None."""
    rows, good = machine
    level = [((), 0, False)]
    seen = set()
    while level:
        further = []
        for row, state, is_broken in sorted(level):
            if (state, is_broken) in seen:
                continue
            seen.add((state, is_broken))
            if is_broken and state in good:
                return row
            for kind, after in enumerate(rows[state]):
                further.append((row + (kind,), after, is_broken or state not in good))
        level = further
    return None


def lasting_rule(numbers, hall_text):
    """The text of some rule that is fair and lasting and lets something."""
    names = names_of(hall_text)
    while True:
        kind, other, third = [numbers.one_of(names) for _ in range(3)]
        first, second = names[0], names[1 % len(names)]
        text = numbers.one_of((
            f"!(?*,{kind},?*,{kind},?*)", f"!(?*,{kind},?*)", f"!(?*,{kind},{other},?*)",
            f"!(?*,{kind},({other}|{third})*,{kind},?*)", f"({kind}|{other})*", f"({kind}|{other})*,({other}|{third})*",
            f"!(?*,{kind},?*)&!(?*,{other},?*,{other},?*)", f"(-|?),(-|?),(-|?)", f"!(?*,{kind},?,{other},?*)",
            f"!(?*,{kind},?*,{other},?*)&!(?*,{third},{third},?*)", f"(?,?,?)*|(?,?,?)*,?|?,?,(?,?,?)*",
            f"({first}*|{second}*),({third},({first}*|{second}*))*", f"(({kind},{other})*),(-|{kind})",
            fair_rule(numbers, hall_text)))
        if tree_of(names, text) is None:
            continue
        machine = plain_machine(hall_text, text)
        if len(machine[0]) <= 40 and is_fair(hall_text, text) and machine[1] and lasting_told(machine) is None:
            return text


class Refusing(Going):
    def may_meet(self, weaving, kind):
        """What may_meet has to tell, by going through all hidden rows."""
        comers = [self.plain.hands.index(name) for name in self.plain.kinds[kind][0]]
        pair = self.pair(self.joined(weaving, comers))
        if not self.is_let(pair[0]):
            return ("breaks", ())
        breaks = []
        for (state, _), (row, _) in self.hidden(pair, kind).items():
            if not self.is_let(self.machine[0][state][kind]):
                breaks.append((len(row), row))
        return ("breaks", min(breaks)[1]) if breaks else ("may",)

    def hidden(self, pair, kind):
        return self.all_from(pair, self.without(self.plain.lot(kind)), self.is_let)

    def let_pairs(self):
        """All pairs of weavings that the rule lets."""
        return self.all_from(self.pair(()), self.kinds, self.is_let) if self.is_let(0) else {}

    def is_needless(self):
        """Whether two hidden rows come behind a let weaving, a kind that can be there being let behind one alone."""
        for _, pair in self.let_pairs().values():
            for kind in self.kinds:
                if self.plain.told_refusal(pair[1], kind) is None:
                    let = {self.is_let(self.machine[0][state][kind]) for state, _ in self.hidden(pair, kind)}
                    if len(let) == 2:
                        return True
        return False


def cases(seed, many, longest):
    numbers = Numbers(seed)
    for place in range(many):
        hall_text = numbers.one_of(TEXTS) if place % 3 else odd_hall_text(numbers, 2 + numbers.below(3))
        text = lasting_rule(numbers, hall_text)
        weaving = Plain(hall_text).odd_weaving(numbers, numbers.below(longest + 1), 3)
        yield Rule(Hall(hall_text), text), Refusing(hall_text, text), weaving, numbers


class LastingTest(unittest.TestCase):
    def test_the_least_row_of_which_a_beginning_is_not_let(self):
        numbers = Numbers(971)
        told = {"NotLasting": 0, None: 0}
        for _ in range(250):
            hall_text = numbers.one_of((TWO, CHAIN, ROW, PAIR, EXAMPLE, THREE))
            text = fair_rule(numbers, hall_text)
            rule = Rule(Hall(hall_text), text)
            row = lasting_told(plain_machine(hall_text, text))
            for call, given in ((may_meet, ((), 0)), (may_by_books, (0, None)), (needless_refusal, ())):
                if row is not None:
                    check_error(self, "NotLasting", row, call, rule, *given)
                else:
                    self.assertNotEqual((error_of(call, rule, *given) or ("none",))[0], "NotLasting")
            told[None if row is None else "NotLasting"] += 1
        self.assertGreater(min(told.values()), 30)

    def test_beside_all_short_rows(self):
        numbers = Numbers(972)
        for _ in range(120):
            hall_text = numbers.one_of((TWO, CHAIN, PAIR))
            text = fair_rule(numbers, hall_text)
            tree = tree_of(names_of(hall_text), text)
            for row in short_rows(3, 5):
                if lets(tree, row) and not all(lets(tree, row[:many]) for many in range(len(row))):
                    check_error(self, "NotLasting", row, needless_refusal, Rule(Hall(hall_text), text))
                    break

    def test_examples(self):
        hall = Hall(TWO)
        for text, row in (("z", (2,)), ("?,?*", (0,)), ("(?,?)*", (0, 0)), ("-|z,z", (2, 2)), ("?*,z", (2,)),
                          ("-|?|?,?,z", (0, 0, 2)), ("!z", (2, 0)), ("!-", (0,))):
            check_error(self, "NotLasting", row, may_meet, Rule(hall, text), (), 0)
        for text in ("-", "?*", "!?*", ALTERNATE, "-|?", "!(?*,z,?*)"):
            self.assertIsNone(error_of(needless_refusal, Rule(hall, text)))


class MayMeetTest(unittest.TestCase):
    def test_beside_plain_going(self):
        told = {"may": 0, "breaks": 0, "at once": 0}
        for rule, going, weaving, _ in cases(973, 220, 8):
            for kind in range(len(rule.hall)):
                refused = refusal(rule.hall, weaving, kind)
                if refused is not None:
                    check_error(self, "CannotBe", refused, may_meet, rule, weaving, kind)
                    continue
                answer = may_meet(rule, weaving, kind)
                check_exact(self, answer, going.may_meet(weaving, kind))
                told["at once" if answer == ("breaks", ()) else answer[0]] += 1
        self.assertGreater(min(told.values()), 25)

    def test_hidden_rows_straight_from_the_definition(self):
        for rule, going, weaving, _ in cases(974, 60, 5):
            names = names_of(rule.hall.text)
            tree = tree_of(names, rule.text)
            for kind in range(len(rule.hall)):
                if refusal(rule.hall, weaving, kind) is not None:
                    continue
                comers = rule.hall.kinds[kind][1]
                view = going.joined(weaving, comers)
                answer = may_meet(rule, weaving, kind)
                kinds = tuple(one for one, _ in view)
                if not lets(tree, kinds):
                    check_exact(self, answer, ("breaks", ()))
                    continue
                breaking = self.short_breaking_row(going, tree, view, kind, 3)
                if breaking is not None:
                    check_exact(self, answer, ("breaks", breaking))
                else:
                    self.assertTrue(answer == ("may",) or len(answer[1]) > 3)

    def short_breaking_row(self, going, tree, view, kind, longest):
        kinds = tuple(one for one, _ in view)
        level = [((), going.plain.state_behind(view))]
        for _ in range(longest + 1):
            further = []
            for row, state in sorted(level, key=lambda told: told[0]):
                if not lets(tree, kinds + row + (kind,)):
                    return tuple((one, 0) for one in row)
                for other in going.without(going.plain.lot(kind)):
                    if going.plain.told_refusal(state, other) is None and lets(tree, kinds + row + (other,)):
                        further.append((row + (other,), going.plain.behind(state, other)))
            level = further
        return None

    def test_plays_keep_the_rule(self):
        # Each meeting is done if may_meet lets it; then the rule lets the weaving, whatever came unheard.
        numbers = Numbers(975)
        done = 0
        for place in range(70):
            hall_text = numbers.one_of(TEXTS + (RELAY, PAIRS)) if place % 3 else odd_hall_text(numbers)
            text = lasting_rule(numbers, hall_text)
            rule, going = Rule(Hall(hall_text), text), Going(hall_text, text)
            weaving = ()
            for _ in range(25):
                kinds = going.plain.next_kinds(going.plain.state_behind(weaving))
                if not kinds:
                    break
                kind = numbers.one_of(kinds)
                if may_meet(rule, weaving, kind) == ("may",):
                    weaving += ((kind, numbers.below(5)),)
                    done += 1
                    self.assertTrue(going.is_let(going.pair(weaving)[0]))
        self.assertGreater(done, 400)

    def test_the_hand_that_is_begun_is_in_the_lot(self):
        # b, c: r is hidden from a, and from c where it is begun; q of a and b is not hidden from a begins c.
        hall = Hall("hands a b c\ntaken a b\nright c a\nmeet n a begins c\nmeet q b\nmeet r c\nmeet e c a ends c")
        rule = Rule(hall, "!(?*,q,?*)|(q|r|e)*")
        for weaving, kind in (((), 0), ((), 1), (((0, 0),), 2), (((0, 0),), 1), (((1, 0),), 0)):
            check_exact(self, may_meet(rule, weaving, kind), Refusing(hall.text, rule.text).may_meet(weaving, kind))

    def test_rules_that_let_nothing(self):
        check_exact(self, may_meet(Rule(Hall(TWO), "!?*"), (), 0), ("breaks", ()))
        check_exact(self, may_meet(Rule(Hall(TWO), "-"), (), 0), ("breaks", ()))
        check_exact(self, may_meet(Rule(Hall(TWO), "-"), ((0, 0),), 0), ("breaks", ()))
        check_exact(self, may_meet(Rule(Hall(TWO), "-"), ((0, 0),), 1), ("breaks", ()))

    def test_loads_mean_nothing_and_names(self):
        rule = Rule(Hall(TWO), ALTERNATE)
        check_exact(self, may_meet(kind=0, weaving=((1, GREAT),), rule=rule), ("breaks", ((1, 0),)))
        check_exact(self, may_meet(rule, ((1, 7), (2, -5), (0, 1)), 2), ("may",))

    def test_errors_in_their_order(self):
        rule = Rule(Hall(PAIR), "?*")
        for value in NO_TUPLES:
            check_error(self, "BadWeaving", -1, may_meet, rule, value, None)
        for value in NO_MEETINGS:
            check_error(self, "BadWeaving", 1, may_meet, rule, ((0, 0), value), None)
        for value in NO_INTEGERS + (-1, 3, GREAT):
            check_error(self, "BadKind", value, may_meet, rule, ((0, 0),), value)
        check_error(self, "CannotBe", ("away", 1), may_meet, rule, (), 1)
        check_error(self, "CannotBe", ("right", 1), may_meet, rule, ((0, 0),), 0)
        hall = Hall(EXAMPLE)
        check_error(self, "CannotBe", ("right", 2), may_meet, Rule(hall, "!?*"), ((4, 0),), 1)


class MayByBooksTest(unittest.TestCase):
    def test_beside_may_meet(self):
        numbers = Numbers(976)
        told = {"may": 0, "breaks": 0, "CannotBe": 0}
        for place in range(80):
            hall_text = numbers.one_of(TEXTS + (RELAY, PAIRS)) if place % 3 else odd_hall_text(numbers)
            text = lasting_rule(numbers, hall_text)
            rule = Rule(Hall(hall_text), text)
            play = Play(hall_text, scale_of(rule))
            for _ in range(16):
                weaving = tuple(play.weaving)
                for kind in range(len(play.plain.kinds)):
                    if not set(play.comers(kind)) <= set(play.here()):
                        continue
                    books = tuple(play.books[hand] for hand in play.comers(kind))
                    refused = play.plain.told_refusal(play.state, kind)
                    if refused is not None:
                        check_error(self, "CannotBe", refused, may_by_books, rule, kind, books)
                        told["CannotBe"] += 1
                    else:
                        answer = may_by_books(rule, kind, books)
                        check_exact(self, answer, may_meet(rule, weaving, kind))
                        told[answer[0]] += 1
                kinds = play.plain.next_kinds(play.state)
                if not kinds:
                    break
                # Meetings that break the rule are done, too, now and then.
                keeping = [kind for kind in kinds if may_meet(rule, weaving, kind) == ("may",)]
                play.meet(numbers.one_of(keeping if keeping and numbers.below(4) else kinds), numbers.below(3))
        self.assertGreater(min(told.values()), 40)

    def test_errors_in_their_order(self):
        rule = Rule(Hall(PAIR), "?*")
        scale = Scale(rule.hall, scale_of(rule))
        a, b = meet(scale, (0, 1), (first_books(scale)[0],))
        for value in NO_INTEGERS + (-1, 3, GREAT):
            check_error(self, "BadKind", value, may_by_books, rule, value, (a,))
            check_error(self, "BadKind", value, may_by_books, rule, value, None)
        for value in NO_TUPLES + ((), (a,), (a, b, a), [a, b], (a, None), (None, b), (a, list(b)), (a, 0)):
            check_error(self, "BadBooks", value, may_by_books, rule, 1, value)
        check_error(self, "BadBooks", (a, b), may_by_books, rule, 0, (a, b))
        check_error(self, "CannotBe", ("right", 1), may_by_books, rule, 0, (a,))
        check_exact(self, may_by_books(books=(a, b), kind=1, rule=rule), ("may",))

    def test_first_who_begins_then_who_is_given(self):
        hall = Hall("hands a b c d\ntaken a b\nright c b\nright d b\nmeet x a begins c gives d\nmeet y b a gives d\n"
                    "meet z b begins c gives d")
        rule = Rule(hall, "?*")
        play = Play(hall.text, scale_of(rule))
        check_error(self, "CannotBe", ("right", 2), may_by_books, rule, 0, (play.books[0],))
        check_exact(self, may_by_books(rule, 2, (play.books[1],)), ("may",))
        play.meet(1, 0)
        check_error(self, "CannotBe", ("right", 2), may_by_books, rule, 0, (play.books[0],))
        check_error(self, "CannotBe", ("right", 3), may_by_books, rule, 2, (play.books[1],))


class NeedlessTest(unittest.TestCase):
    def test_beside_all_let_pairs(self):
        told = {"refuses": 0, "never": 0}
        for rule, going, _, _ in cases(977, 700, 0):
            if len(going.let_pairs()) > 200:
                check_error(self, "TooMany", 200, needless_refusal, rule)
                continue
            answer = needless_refusal(rule)
            told[answer[0]] += 1
            if going.is_needless():
                self.check_refusal(rule, going, answer)
            else:
                check_exact(self, answer, ("never",))
        self.assertGreater(min(told.values()), 30)

    def check_refusal(self, rule, going, answer):
        word, weaving, kind = answer
        self.assertEqual(word, "refuses")
        self.assertLessEqual(len(weaving), 400)
        check_exact(self, weaving, tuple((one, 0) for one, _ in weaving))
        self.assertIs(type(kind), int)
        self.assertIsNone(refusal(rule.hall, weaving, kind))
        self.assertTrue(going.is_let(going.pair(weaving)[0]))
        self.assertTrue(going.is_let(going.pair(weaving + ((kind, 0),))[0]))
        self.assertEqual(may_meet(rule, weaving, kind)[0], "breaks")

    def test_examples(self):
        hall = Hall(TWO)
        rule = Rule(hall, ALTERNATE)
        self.check_refusal(rule, Going(TWO, ALTERNATE), needless_refusal(rule=rule))
        for text in ("?*", "-", "!?*", "x*", "z*", "(x|z)*", "!(?*,x,?*,x,?*)"):
            check_exact(self, needless_refusal(Rule(hall, text)), ("never",))

    def test_just_200_pairs_and_one_more(self):
        # w changes no standing: there are as many pairs as standings and numbers of w that are let.
        for hall_text, text, many in ((FIFTY, THREE_W, 200), (FIFTY, TWO_W, 150), (SIXTY_SEVEN, TWO_W, 201),
                                      (SIXTY_SEVEN, THREE_W, 268), (SIXTY_SEVEN, "?*", 67), (SIXTY_SEVEN, "-", 1)):
            rule, going = Rule(Hall(hall_text), text), Refusing(hall_text, text)
            self.assertEqual(len(going.let_pairs()), many)
            if many > 200:
                check_error(self, "TooMany", 200, needless_refusal, rule)
            elif going.is_needless():
                self.check_refusal(rule, going, needless_refusal(rule))
            else:
                check_exact(self, needless_refusal(rule), ("never",))


# Fifty and sixty-seven standings can come; w changes none of them.
FIFTY = ("hands a b c d e\ntaken a b c d\nright e d\nmeet p d begins e\nmeet q c a ends a\nmeet r d a ends a\n"
         "meet s d e ends d\nmeet t a b ends b\nmeet u e c a ends e\nmeet v b c ends c\nmeet w a")
SIXTY_SEVEN = ("hands a b c d e\ntaken a b c d e\nmeet p a b ends a\nmeet q b c ends c\nmeet r b e ends e\n"
               "meet s d begins b\nmeet t a d ends d\nmeet u d b ends b\nmeet v d e ends d\nmeet w a")
TWO_W = "!(?*,w,?*,w,?*,w,?*)"
THREE_W = "!(?*,w,?*,w,?*,w,?*,w,?*)"


class RulesTest(unittest.TestCase):
    def test_what_is_told_of_the_rule_first(self):
        hall = Hall(TWO)
        for text, name, value in ((LARGE, "TooMany", 40), (FAIR_FORTY_ONE, "TooMany", 40),
                                  ("x,y", "NotFair", ("unfair", (0, 1), (1, 0))), ("z,z", "NotLasting", (2, 2))):
            for call, given in ((may_meet, (None, None)), (may_meet, ((), 0)), (may_by_books, (None, None)),
                                (may_by_books, (0, ())), (needless_refusal, ())):
                check_error(self, name, value, call, Rule(hall, text), *given)


class LimitsTest(unittest.TestCase):
    def test_weavings_of_400_and_large_halls(self):
        numbers = Numbers(978)
        for hall_text, text in ((RELAY, "!(?*,q,?*,q,?*,q,?*)"), (EIGHT, "!(?*,u,?*)&!(?*,v,?*)"),
                                (TWO, "!(?*,z,?,?,?,?,z,?*)|?*"), (PAIR, "!(?*,e,t,?*)")):
            rule, going = Rule(Hall(hall_text), text), Refusing(hall_text, text)
            weaving = going.plain.odd_weaving(numbers, 400)
            self.assertEqual(len(weaving), 400)
            for kind in going.plain.next_kinds(going.plain.state_behind(weaving)):
                check_exact(self, may_meet(rule, weaving, kind), going.may_meet(weaving, kind))
            self.assertIn((error_of(needless_refusal, rule) or ("none",))[0], ("none", "TooMany"))

    def test_large_rules(self):
        close = "hands a b\ntaken a b\nmeet x a b\nmeet y b a\nmeet z a"
        for hall_text, text, many in ((close, "!(?*,x,?,?,?,?,x,?*)", 33), (close, "!(?*,x,?,?,y,z,?*)", 5),
                                      (AWAY, ",".join(["(-|?)"] * 12), 14),
                                      (TWO, "(-|?),(-|?),(-|?),(-|?),(-|?)&!(?*,x,?*,x,?*)", 11)):
            rule, going = Rule(Hall(hall_text), text), Refusing(hall_text, text)
            if many > 5:
                self.assertEqual(len(plain_machine(hall_text, text)[0]), many)
            for kinds in ((), (0, 1), (0, 1, 2), (0, 1, 1, 0), (0, 1, 1, 1, 1, 0), (1,) * 11):
                weaving = tuple((kind, 0) for kind in kinds if kind < 2 or hall_text != AWAY)
                for kind in going.plain.next_kinds(going.plain.state_behind(weaving)):
                    check_exact(self, may_meet(rule, weaving, kind), going.may_meet(weaving, kind))


if __name__ == "__main__":
    unittest.main()
