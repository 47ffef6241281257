"""Point 10, fair.py: rules that do not depend on the order of strangers, and their scales."""

import unittest

from meetbooks.fair import fairness, scale_of
from meetbooks.halls import Hall
from meetbooks.rules import Rule
from meetbooks.scales import Scale
from meetbooks.values import scale_fits, value_of
from tests.plain import (
    ALONE, CHAIN, EIGHT, EXAMPLE, PAIR, ROW, TEXTS, THREE, TWO, Numbers, Plain, check_error, check_exact, error_of)
from tests.plain_rules import (
    FAIR_FORTY, FAIR_FORTY_ONE, FORTY, is_fair, lets, names_of, odd_large_rule, odd_rule, plain_machine, run, tree_of,
    unfair_told)

# Its kinds x and y are strangers, and so are y and z, and x and z.
STRANGE = "hands a b c\ntaken a b c\nmeet x a\nmeet y b\nmeet z c"


class FairnessTest(unittest.TestCase):
    def check(self, hall_text, text, longest):
        rule = Rule(Hall(hall_text), text)
        if is_fair(hall_text, text):
            check_exact(self, fairness(rule), ("fair",))
            return "fair"
        told = fairness(rule)
        short = unfair_told(hall_text, text, longest)
        if short is not None:
            check_exact(self, told, short)
            return "unfair"
        self.check_pair(hall_text, text, told, longest)
        return "long"

    def check_pair(self, hall_text, text, told, longest):
        """Fail unless both rows, longer ones, are one exchange apart, and the rule lets just one."""
        plain, tree = Plain(hall_text), tree_of(names_of(hall_text), text)
        self.assertEqual(told[0], "unfair")
        one, other = told[1:]
        self.assertGreater(len(one), longest)
        self.assertLess(one, other)
        place = [k == m for k, m in zip(one, other)].index(False)
        self.assertEqual(other, one[:place] + (one[place + 1], one[place]) + one[place + 2:])
        self.assertTrue(plain.strangers(one[place], one[place + 1]))
        self.assertNotEqual(lets(tree, one), lets(tree, other))

    def test_beside_all_pairs_of_short_rows(self):
        numbers = Numbers(941)
        told = {"fair": 0, "unfair": 0, "long": 0}
        for _ in range(260):
            hall_text = numbers.one_of((TWO, STRANGE, ROW, CHAIN, THREE, EXAMPLE))
            names = names_of(hall_text)
            text = odd_rule(numbers, names, 1 + numbers.below(8), 4)
            if len(plain_machine(hall_text, text)[0]) <= 40:
                told[self.check(hall_text, text, 6 if len(names) < 4 else 4)] += 1
        self.assertGreater(min(told["fair"], told["unfair"]), 40)

    def test_larger_rules(self):
        numbers = Numbers(942)
        told = {"fair": 0, "unfair": 0, "long": 0}
        for _ in range(120):
            hall_text = numbers.one_of((TWO, STRANGE))
            text = odd_large_rule(numbers, names_of(hall_text))
            if len(plain_machine(hall_text, text)[0]) <= 40:
                told[self.check(hall_text, text, 5)] += 1
        self.assertGreater(told["unfair"], 30)

    def test_which_pair_is_told(self):
        for text, one, other in (
                ("y,x", (0, 1), (1, 0)), ("x,y|z,y", (0, 1), (1, 0)), ("z,y", (1, 2), (2, 1)),
                ("?,x,y|?,z,x", (0, 0, 1), (0, 1, 0)), ("?,?,x,y", (0, 0, 0, 1), (0, 0, 1, 0)),
                # Of several rows that are one exchange apart from the least one, the least.
                ("x,y,z|x,z,y|y,x,z", None, None), ("x,y,z", (0, 1, 2), (0, 2, 1)),
                ("x,y,z|x,z,y", (0, 1, 2), (1, 0, 2)), ("y,x,z|x,y,z", (0, 1, 2), (0, 2, 1)),
                ("(y,x|x,y),z*,y,x", (0, 1, 0, 1), (0, 1, 1, 0))):
            told = fairness(Rule(Hall(STRANGE), text))
            check_exact(self, told, unfair_told(STRANGE, text, 5))
            if one is not None:
                check_exact(self, told, ("unfair", one, other))

    def test_rows_need_not_be_weavings(self):
        hall = Hall("hands a b\ntaken a\nright b a\nmeet x a\nmeet y b")
        check_exact(self, fairness(Rule(hall, "x,y")), ("unfair", (0, 1), (1, 0)))
        hall = Hall(EXAMPLE)  # n and p are strangers
        check_exact(self, fairness(rule=Rule(hall, "?*,n,n,p")), ("unfair", (1, 1, 3), (1, 3, 1)))

    def test_halls_without_strangers(self):
        for text in ("s,t", "!(s,t*)", "s*,(t,e)*"):
            check_exact(self, fairness(Rule(Hall(PAIR), text)), ("fair",))

    def test_too_large(self):
        for text in ("?*,x,?,?,?,?,?,?", FAIR_FORTY_ONE):
            for call in (fairness, scale_of):
                check_error(self, "TooMany", 40, call, Rule(Hall(TWO), text))
        check_exact(self, fairness(Rule(Hall(TWO), FAIR_FORTY)), ("fair",))
        check_exact(self, fairness(Rule(Hall(TWO), FORTY)), unfair_told(TWO, FORTY, 7))

    def test_many_kinds(self):
        for hall_text, text in ((EIGHT, "(p|q|r)*,(s|t)*"), (EIGHT, "!(?*,u,?*)"), (ALONE, "p,q,r,s,t"),
                                (ALONE, "(p,q,r,s,t)|(q,p,r,s,t)"), (EIGHT, "?*,w,?*,v,?*,u,?*")):
            self.check(hall_text, text, 5)


class ScaleOfTest(unittest.TestCase):
    def test_beside_the_machine(self):
        numbers = Numbers(943)
        fair = 0
        for _ in range(300):
            hall_text = numbers.one_of(TEXTS)
            names = names_of(hall_text)
            text = odd_rule(numbers, names, 1 + numbers.below(8), 4)
            rule = Rule(Hall(hall_text), text)
            machine = plain_machine(hall_text, text)
            if len(machine[0]) > 40:
                check_error(self, "TooMany", 40, scale_of, rule)
            elif not is_fair(hall_text, text):
                check_error(self, "NotFair", fairness(rule), scale_of, rule)
            else:
                fair += 1
                self.check_scale(hall_text, rule, machine, numbers)
        self.assertGreater(fair, 60)

    def check_scale(self, hall_text, rule, machine, numbers):
        rows, _ = machine
        lines = [f"states {len(rows)}"]
        for kind, name in enumerate(names_of(hall_text)):
            lines.append(name + "".join(f" {row[kind]}" for row in rows))
        check_exact(self, scale_of(rule), "\n".join(lines))
        scale = Scale(rule.hall, scale_of(rule))
        check_exact(self, scale_fits(scale), ("fits",))
        weaving = Plain(hall_text).odd_weaving(numbers, 30)
        self.assertEqual(value_of(scale, weaving)[0], run(machine, [kind for kind, _ in weaving]))

    def test_errors_and_names(self):
        rule = Rule(Hall(TWO), "x,y")
        self.assertEqual(error_of(scale_of, rule), ("NotFair", ("unfair", (0, 1), (1, 0))))
        check_exact(self, scale_of(rule=Rule(Hall(TWO), "?*")), "states 1\nx 0\ny 0\nz 0")
        check_exact(self, scale_of(Rule(Hall(TWO), FAIR_FORTY)).split("\n")[0], "states 40")


if __name__ == "__main__":
    unittest.main()
