"""Point 10, rules.py: texts of rules, matching, least machines, rules that let the same."""

import unittest

from meetbooks.halls import Hall
from meetbooks.rules import Rule, machine_of, rule_lets, same_rule
from meetbooks.scales import Scale
from tests.plain import (
    ALONE, CHAIN, EIGHT, EXAMPLE, GREAT, NO_INTEGERS, NO_TUPLES, PAIR, ROW, TEXTS, THREE, TWO, Numbers, check_error,
    check_exact, error_of, nested)
from tests.plain_rules import (
    FAIR_FORTY, FAIR_FORTY_ONE, FORTY, FORTY_ONE, bad_place, lets, names_of, odd_large_rule, odd_rule, plain_machine,
    run, short_rows, tree_of)

# Names that begin one another, and names of one letter.
NESTED = "hands a b c\ntaken a b c\nmeet a a\nmeet ab b\nmeet abc a b\nmeet bc c\nmeet z a c"
SIGNS = "|&!,*?-() "


class TextTest(unittest.TestCase):
    def check(self, text, hall_text=ROW):
        place = bad_place(hall_text, text)
        told = error_of(Rule, Hall(hall_text), text)
        self.assertEqual(told, None if place is None else ("BadRule", place), text)

    def test_as_the_document_writes(self):
        hall = Hall(ROW)
        for text, place in (("x,q", 2), ("x &", 3), ("x , !", 4), ("(x&x)*", 5), ("x x", 2), ("", 0), ("   ", 3)):
            check_error(self, "BadRule", place, Rule, hall, text)

    def test_each_sign_behind_each(self):
        for text in ("", "x", "x ", "(", "(x", "(x)", "!", "!x", "x,", "x,y", "x|", "x&", "x&y", "x*", "?", "-",
                     "(x&y)",
                     "(x&y", "(!x", "(!x)", "x,(", "x,(y", "x,(y)", "x,((", "(x|(y&z))", "(x|(y&z)", "x|(y,", "x|(y,z)",
                     "((x&y)|z)", "!(x)", "!!", "!x,", "x,!", "-,", "-,-", "(-)", "(?*", "x|y,z&x", "x*,", "x**"):
            for sign in SIGNS + "xyzqabXY01_\n\t.+~":
                self.check(text + sign)
                self.check(text + sign + "x")
                self.check(text + sign + "-)")

    def test_what_is_no_string(self):
        for value in NO_TUPLES + ((), ("x",), b"x", ["x"], Rule(Hall(ROW), "x"), nested(60, lambda value: (value,))):
            if not isinstance(value, str):
                check_error(self, "BadRule", -1, Rule, Hall(ROW), value)

    def test_blanks(self):
        hall = Hall(NESTED)
        for text in (" abc ", "  a  |  ab ", "( a , ab ) *", "! ! ( - ) & ?", "a , b c", "a b", "ab c", "a  bc",
                     " ? * * "):
            self.check(text, NESTED)
        check_error(self, "BadRule", 2, Rule, hall, "a bc")
        check_error(self, "BadRule", 5, Rule, hall, "a , b")
        check_error(self, "BadRule", 5, Rule, hall, "a , b c")
        check_error(self, "BadRule", 1, Rule, hall, "a\n")

    def test_names_that_begin_one_another(self):
        for text in ("a", "ab", "abc", "abcd", "b", "bc", "bcd", "aa", "aab", "ac", "abz", "zz", "za", "a,ab,abc",
                     "a*b",
                     "abcabc", "b,a", "a,b", "(ab", "b)", "ab)", "!b", "b*", "b|a", "b "):
            self.check(text, NESTED)

    def test_twelve_names(self):
        for text in (",".join("x" * 12), ",".join("x?yz" * 3), "|".join("x" * 13), ",".join("?" * 13),
                     ",".join("x" * 12) + ",-", ",".join("x" * 12) + ",(-)*", "&".join("?x" * 6) + "&x",
                     ",".join("x" * 12) + ",", ",".join("x" * 12) + "|-&!-", "-," * 20 + "x", "x*" * 13,
                     ",".join("x" * 12) + "&q"):
            self.check(text)
        for text in (",".join(["abc"] * 12), ",".join(["abc"] * 13), ",".join(["abc"] * 12) + ",a"):
            self.check(text, NESTED)
        check_error(self, "BadRule", 24, Rule, Hall(ROW), ",".join("x" * 13))

    def test_brackets(self):
        for depth in (1, 9, 10, 11, 12):
            self.check("(" * depth + "x" + ")" * depth)
            self.check("(" * depth + "x&!y" + ")" * depth)
            self.check("(" * depth + "x&y" + ")" * depth + "*")
            self.check("x," + "(" * depth + "x" + ")" * depth)
            self.check("(" * depth + "-")
            self.check("(" * depth)
            self.check("x" + ")" * depth)
            self.check("(-)," * depth + "(" * depth + "-" + ")" * depth)
        check_error(self, "BadRule", 10, Rule, Hall(ROW), "(" * 11 + "x" + ")" * 11)
        for text in ("()", "(|x)", "x()", "(x))", "(x)y", "(x)(y)", "x(y)", "((x)"):
            self.check(text)

    def test_long_texts(self):
        for text in (" " * 199 + "x", " " * 200 + "x", "x" + " " * 199, "x" + " " * 200, " " * 200, " " * 201,
                     " " * 199 + "q",
                     "!" * 199 + "x", "!" * 200 + "x", "x" + "*" * 199, "x" + "*" * 200, "x|" + "-|" * 98 + "--",
                     "-" + "|-" * 99, "-" + "|-" * 100, "-" + ",-" * 99 + ",", "-" + "&-" * 99 + "&", "x" * 6000,
                     " " * 6000, "x" + "*" * 5999, "-," * 3000, "q" * 3000, " " * 150 + "q" * 100,
                     "-" + "|-" * 98 + "|",
                     "-" + "|-" * 98 + "|qq", "-" + "|-" * 99 + "q", "-" + "|-" * 99 + "|q" * 1000):
            self.check(text)
        check_error(self, "BadRule", 200, Rule, Hall(ROW), "x" + " " * 200)
        check_error(self, "BadRule", 200, Rule, Hall(ROW), "-" + ",-" * 99 + ",")
        check_error(self, "BadRule", 3, Rule, Hall(ROW), "x|yq" + " " * 5000)
        long = Hall("hands a b\ntaken a b\nmeet abcdefgh a")
        check_error(self, "BadRule", 200, Rule, long, " " * 196 + "abcdefgh")
        check_error(self, "BadRule", 199, Rule, long, " " * 195 + "abcd")
        self.assertIsNone(error_of(Rule, long, " " * 192 + "abcdefgh"))

    def test_odd_texts(self):
        numbers = Numbers(931)
        bad = 0
        for _ in range(2500):
            hall_text = numbers.one_of((ROW, NESTED, TWO))
            text = list(odd_rule(numbers, names_of(hall_text), 12, 4))
            for _ in range(numbers.below(3)):
                place = numbers.below(len(text) + 1)
                way = numbers.below(3)
                if way == 0:
                    text.insert(place, numbers.one_of(SIGNS + "xyzabcq"))
                elif way == 1:
                    text[place:place + 1] = []
                else:
                    text[place:place + 1] = [numbers.one_of(SIGNS + "xyzabc")]
            self.check("".join(text), hall_text)
            bad += bad_place(hall_text, "".join(text)) is not None
        self.assertGreater(bad, 800)

    def test_properties(self):
        hall = Hall(ROW)
        rule = Rule(text=" x | (y,?)* ", hall=hall)
        self.assertIs(rule.hall, hall)
        check_exact(self, rule.text, " x | (y,?)* ")

    def test_equal_rules(self):
        one = Rule(Hall(ROW), "x|y")
        self.assertIs(one == Rule(Hall(ROW), "x|y"), True)
        self.assertIs(one != Rule(Hall(ROW), "x|y"), False)
        other = Rule(Hall(ROW.replace("meet z b c", "meet z c b")), "x|y")
        for value in NO_TUPLES + (Rule(Hall(ROW), "x| y"), Rule(Hall(ROW), "y|x"), other, one.text, one.hall, (),
                                  (one,),
                                  Scale(Hall(ROW), "waits\nx 1\ny 1\nz 1")):
            self.assertIs(one == value, False)
            self.assertIs(value == one, False)
            self.assertIs(one != value, True)


class MatchTest(unittest.TestCase):
    def test_how_tightly_signs_bind(self):
        hall = Hall(ROW)
        for text, same, other in (("!x,y", "!(x,y)", "(!x)|(-,y)"), ("x&!y|z", "(x&(!y))|z", "x&(!y|z)"),
                                  ("x|y,z", "x|(y,z)", "(x|y),z"), ("x,y*", "x,(y*)", "(x,y)*"),
                                  ("!x*", "!(x*)", "!(x)"), ("x&y|z", "(x&y)|z", "x&(y|z)"),
                                  ("x|y&z", "x|(y&z)", "(x|y)&z"), ("!x&y", "(!x)&y", "!(x&y)"),
                                  ("!!x,y", "x,y", "!(x,y)"), ("x**", "x*", "x"), ("x,y,z", "x,(y,z)", "x,y"),
                                  ("!x|y", "(!x)|y", "!(x|y)")):
            check_exact(self, same_rule(Rule(hall, text), Rule(hall, same)), ("same",))
            self.assertEqual(same_rule(Rule(hall, text), Rule(hall, other))[0], "parts")

    def test_each_sign(self):
        hall = Hall(TWO)  # its kinds are x, y and z
        for text, rows in (("x", [(0,)]), ("?", [(0,), (1,), (2,)]), ("-", [()]), ("(y)", [(1,)]), ("x,y", [(0, 1)]),
                           ("x|y", [(0,), (1,)]), ("?&!x", [(1,), (2,)]), ("x&y", []), ("-*", [()]), ("-,x", [(0,)]),
                           ("x*&!(x,x,?*)", [(), (0,)]), ("(x,y)*&!(?,?,?,?*)", [(), (0, 1)]),
                           ("!(?,?*)", [()]), ("(-|x),(-|y)", [(), (0,), (1,), (0, 1)])):
            rule = Rule(hall, text)
            for row in short_rows(3, 4):
                check_exact(self, rule_lets(rule, row), row in rows)
                check_exact(self, row in rule, row in rows)

    def test_straight_from_the_definition(self):
        numbers = Numbers(932)
        for place in range(260):
            hall_text = numbers.one_of(TEXTS + (NESTED,))
            names = names_of(hall_text)
            text = odd_rule(numbers, names, 8, 4)
            rule, tree = Rule(Hall(hall_text), text), tree_of(names, text)
            for row in short_rows(len(names), 4 if len(names) < 4 else 2):
                check_exact(self, rule_lets(rule, row), lets(tree, row))
            for _ in range(12):
                row = tuple(numbers.below(len(names)) for _ in range(numbers.below(12)))
                check_exact(self, rule_lets(rule, row), lets(tree, row))
                check_exact(self, row in rule, lets(tree, row))

    def test_long_rows(self):
        numbers = Numbers(933)
        for hall_text in (EIGHT, ROW, ALONE, EXAMPLE):
            names = names_of(hall_text)
            for _ in range(6):
                text = odd_rule(numbers, names, 12, 5)
                rule, tree = Rule(Hall(hall_text), text), tree_of(names, text)
                for many in (399, 400):
                    row = tuple(numbers.below(len(names)) for _ in range(many))
                    check_exact(self, rule_lets(kinds=row, rule=rule), lets(tree, row))
        rule = Rule(Hall(EIGHT), "(p,q)*,(r|s,t)*")
        for row, told in (((0, 1) * 200, True), ((0, 1) * 199 + (0,), False), ((0, 1) * 100 + (3, 4) * 100, True),
                          ((0, 1) * 100 + (2,) * 200, True), ((2,) * 200 + (0, 1) * 100, False)):
            check_exact(self, [rule_lets(rule, row), row in rule], [told, told])

    def test_rules_of_rows_that_are_no_weavings(self):
        rule = Rule(Hall(PAIR), "t,e,t,s")
        check_exact(self, [rule_lets(rule, (1, 2, 1, 0)), (1, 2, 1, 0) in rule, (1, 2) in rule], [True, True, False])

    def test_wrong_rows(self):
        rule = Rule(Hall(ROW), "?*")
        wrong = NO_TUPLES + ((3,), (-1,), (0, 3), (True,), (0, False), (None,), ("x",), ("0",), ((0,),), [0], [],
                             (GREAT,),
                             (0, (1,)), ((0, 0),), nested(60, lambda value: (value,)), rule)
        for value in wrong:
            check_error(self, "BadKinds", value, rule_lets, rule, value)
            self.assertIs(value in rule, False)
        for value in NO_INTEGERS:
            self.assertIs((value,) in rule, False)
        for value in ((), (0,), (2, 1, 0)):
            self.assertIs(value in rule, True)
        self.assertIs(rule.text in rule, False)
        self.assertIs(() in Rule(Hall(ROW), "?"), False)


class MachineTest(unittest.TestCase):
    def check_least(self, hall_text, machine, tree):
        """Fail unless it lets what the tree lets, and is numbered as it has to be."""
        rows, good = machine
        kinds = len(names_of(hall_text))
        seen = {}
        for row in short_rows(kinds, 5 if kinds < 4 else 3):
            state = run(machine, row)
            self.assertEqual(state in good, lets(tree, row))
            seen.setdefault(state, row)
        self.assertEqual(list(seen), sorted(seen))

    def test_beside_another_way(self):
        numbers = Numbers(934)
        sizes = {}
        for number in range(400):
            hall_text = numbers.one_of((ROW, TWO, CHAIN, THREE, PAIR, NESTED))
            names = names_of(hall_text)
            text = odd_large_rule(numbers, names) if number % 2 else odd_rule(numbers, names, 1 + numbers.below(9), 5)
            rule, machine = Rule(Hall(hall_text), text), plain_machine(hall_text, text)
            sizes[len(machine[0])] = text
            if len(machine[0]) > 40:
                check_error(self, "TooMany", 40, machine_of, rule)
            else:
                check_exact(self, machine_of(rule), machine)
                self.check_least(hall_text, machine, tree_of(names, text))
        self.assertGreater(len(sizes), 20)
        self.assertGreater(max(sizes), 40)

    def test_just_forty_states_and_more(self):
        for text, many in (("(?,?,?,?,?)*&(?,?,?,?,?,?,?)*", 35), ("(?,?,?,?)*&(?,?,?)*&(?,?,?,?,?)*", 60),
                           ("!(?,?,?,?,?)*|(?,?,?,?,?,?,?)*", 35), ("?*,x,?,?,?,?", 32), ("?*,x,?,?,?,?,?", 64),
                           ("(?,?,?,?,?)*&((y|z),?,?,?,?,?)*", None), ("(?,?,?,?)*&(?,?,?,?,?,?,?)*", 28)):
            rule = Rule(Hall(ROW), text)
            machine = plain_machine(ROW, text)
            if many is not None:
                self.assertEqual(len(machine[0]), many)
            if len(machine[0]) > 40:
                check_error(self, "TooMany", 40, machine_of, rule)
            else:
                check_exact(self, machine_of(rule), machine)
        for text in (FORTY, FAIR_FORTY):
            self.assertEqual(len(machine_of(Rule(Hall(TWO), text))[0]), 40)
            check_exact(self, machine_of(Rule(Hall(TWO), text)), plain_machine(TWO, text))
        for text in (FORTY_ONE, FAIR_FORTY_ONE):
            self.assertEqual(len(plain_machine(TWO, text)[0]), 41)
            check_error(self, "TooMany", 40, machine_of, Rule(Hall(TWO), text))

    def test_hundreds_of_states_on_the_way(self):
        for text in ("?*,x,?,?,?,?,?,?,?,?&-", "(?*,x,?,?,?,?,?,?,?,?,?)|?*", "!(?*,x,?,?,?,?,?,?,?,?|-)&?",
                     "(?*,x,?,?,?,?,?,?,?,?,?)&!?*"):
            check_exact(self, machine_of(Rule(Hall(ROW), text)), plain_machine(ROW, text))
        check_error(self, "TooMany", 40, machine_of, Rule(Hall(ROW), "?*,x,?,?,?,?,?,?,?,?,?,?"))
        check_error(self, "TooMany", 40, machine_of, Rule(Hall(EIGHT), "(?*,p,?,?,?,?,?)|(?*,q,?,?,?)"))

    def test_states_from_which_no_row_is_let(self):
        hall = Hall(TWO)
        check_exact(self, machine_of(Rule(hall, "!?*")), (((0, 0, 0),), ()))
        check_exact(self, machine_of(Rule(hall, "?*")), (((0, 0, 0),), (0,)))
        check_exact(self, machine_of(rule=Rule(hall, "-")), (((1, 1, 1), (1, 1, 1)), (0,)))
        check_exact(self, machine_of(Rule(hall, "z")), (((1, 1, 2), (1, 1, 1), (1, 1, 1)), (2,)))

    def test_equal_calls(self):
        rule = Rule(Hall(ROW), "(x|y)*,z")
        check_exact(self, machine_of(rule), machine_of(Rule(Hall(ROW), "(x|y)*,z")))


class SameRuleTest(unittest.TestCase):
    def test_beside_all_short_rows(self):
        numbers = Numbers(935)
        told = {"same": 0, "parts": 0}
        for _ in range(300):
            hall_text = numbers.one_of((TWO, CHAIN, PAIR))
            names = names_of(hall_text)
            texts = [odd_rule(numbers, names, 4, 3) for _ in range(2)]
            if numbers.below(3) == 0:
                texts[1] = numbers.one_of(("!(!({}))", "({})|({})&?*", "({})&(?|?,?*|-)")).replace("{}", texts[0])
            one, other = [Rule(Hall(hall_text), text) for text in texts]
            machines = [plain_machine(hall_text, text) for text in texts]
            if max(len(machine[0]) for machine in machines) > 40:
                continue
            answer = same_rule(one, other)
            told[answer[0]] += 1
            if answer == ("same",):
                check_exact(self, machines[0], machines[1])
            self.check_least_row(names, texts, answer)
        self.assertGreater(min(told.values()), 60)

    def check_least_row(self, names, texts, answer):
        trees = [tree_of(names, text) for text in texts]
        for row in short_rows(len(names), 5):
            if lets(trees[0], row) != lets(trees[1], row):
                check_exact(self, answer, ("parts", row))
                return
        if answer != ("same",):
            self.assertGreater(len(answer[1]), 5)
            self.assertNotEqual(lets(trees[0], answer[1]), lets(trees[1], answer[1]))

    def test_long_rows_tell_rules_apart(self):
        hall = Hall(TWO)
        one, other = Rule(hall, "(?,?,?,?,?)*"), Rule(hall, "(?,?,?,?,?)*&!((?,?,?,?,?,?,?)*&!-)")
        check_exact(self, same_rule(one, other), ("parts", (0,) * 35))
        check_exact(self, same_rule(Rule(hall, "?*"), Rule(hall, "!(y,y,y,y,z,?*)")), ("parts", (1, 1, 1, 1, 2)))

    def test_errors_in_their_order(self):
        small, large = Rule(Hall(ROW), "x"), Rule(Hall(ROW), "?*,x,?,?,?,?,?,?")
        for value in NO_TUPLES + ((), small.text, small.hall, Rule(Hall(TWO), "x"),
                                  Rule(Hall(ROW.replace("meet z b c", "meet z c b")), "x")):
            check_error(self, "OtherHall", value, same_rule, small, value) if not isinstance(value, Rule) else (
                self.check_other(small, value))
            self.assertEqual(error_of(same_rule, large, value)[0], "OtherHall")
        check_error(self, "TooMany", 40, same_rule, large, small)
        check_error(self, "TooMany", 40, same_rule, small, large)
        check_error(self, "TooMany", 40, same_rule, large, large)
        check_exact(self, same_rule(other=Rule(Hall(ROW), "x|x"), rule=small), ("same",))

    def check_other(self, rule, value):
        name, told = error_of(same_rule, rule, value)
        self.assertEqual(name, "OtherHall")
        self.assertIs(told, value)


if __name__ == "__main__":
    unittest.main()
