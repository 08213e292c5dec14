"""[13], [24]: cordrules/breaches.py."""

import unittest
from itertools import permutations, product

from cordrules.breaches import breach, common_custom, custom_of, fails_at, keeps
from cordrules.errors import BadColours, BadNumber
from cordrules.filled import all_tables
from cordrules.rules import as_table, colours_of
from helpers import (
    NOTHING, VERY, try_refusals, wrong_customs, wrong_table_colours, wrong_told_rules)

CUSTOMS = ("any", "back", "through", "began", "twice", "never")


def equations(rule):
    """For each equation, in their order: the custom, its number, at how many colours, and what tells failing."""
    def on(a, c):
        return rule[1][a][c]

    def off(a, c):
        return rule[2][a][c]

    return [
        ("back", 0, 2, lambda a, c: off(a, on(a, c)) != c),
        ("back", 1, 2, lambda a, c: on(a, off(a, c)) != c),
        ("through", 0, 3, lambda a, b, c: on(a, on(b, c)) != on(on(a, b), on(a, c))),
        ("began", 0, 3, lambda a, b, c: on(on(a, b), c) != on(b, c)),
        ("twice", 0, 2, lambda a, c: on(a, on(a, c)) != c),
        ("never", 0, 2, lambda a, c: on(a, c) != c)]


def first_breach(rule):
    """The breach of a table, from the words of the document."""
    for custom, number, many, fails in equations(rule):
        for colours in product(range(len(rule[1])), repeat=many):
            if fails(*colours):
                return custom, number, colours
    return None


def some_tables():
    found = list(all_tables(1, "any") + all_tables(2, "any") + all_tables(3, "back"))
    seed = 7
    for many in (3, 4):
        for _ in range(60):
            lines = []
            for _ in range(2 * many):
                line = []
                for _ in range(many):
                    seed = (seed * 1103515245 + 12345) % 2 ** 31
                    line.append((seed >> 12) % many)
                lines.append(tuple(line))
            found.append(("table", tuple(lines[:many]), tuple(lines[many:])))
    for on in list(product(permutations(range(4)), repeat=2))[::37]:
        on = (on[0], on[1], on[0], on[1])
        found.append(("table", on, tuple(tuple(line.index(c) for c in range(4)) for line in on)))
    return found


TOLD = [("turns", modulus, weights) for modulus in (1, 2, 3, 4, 6) for many in (1, 2, 3)
        for weights in product(range(modulus), repeat=many)][::3]
ACTS = [("acts", acts) for size in (1, 2, 3) for many in (1, 2)
        for acts in product(list(permutations(range(size))), repeat=many)]
ACTS += [("acts", (act,)) for act in permutations(range(4))]
ACTS += [("acts", acts) for acts in product(
    ((0, 1, 2, 3), (1, 0, 3, 2), (2, 3, 0, 1), (1, 2, 3, 0), (1, 0, 2, 3)), repeat=2)]


class TestBreaches(unittest.TestCase):
    def test_tables(self):
        for rule in some_tables():
            self.assertEqual(breach(rule), first_breach(rule))

    def test_second_equation_of_back_is_never_first(self):
        for rule in some_tables():
            self.assertNotEqual((breach(rule) or ())[:2], ("back", 1))
        # It can fail, but never alone.
        rule = ("table", ((0, 0), (0, 1)), ((1, 1), (0, 1)))
        self.assertTrue(fails_at(rule, "back", 1, (0, 1)))

    def test_turns_as_tables(self):
        for rule in TOLD:
            colours = colours_of(rule)
            expected = breach(as_table(rule))
            if expected is not None:
                expected = expected[:2] + (tuple(colours[number] for number in expected[2]),)
            self.assertEqual(breach(rule), expected)
        self.assertEqual(breach(("turns", 4, (0, 2, 1))), ("twice", 0, ((0, 2), (0, 0))))
        self.assertEqual(breach(("turns", 4, (0, 2, 2))), ("never", 0, ((0, 1), (0, 0))))
        self.assertIsNone(breach(("turns", 10 ** 6, (0, 0))))
        self.assertEqual(breach(("turns", 10 ** 6, (500000,))), ("never", 0, ((0, 0), (0, 0))))
        self.assertEqual(breach(("turns", 10 ** 6, (0, 499999))), ("twice", 0, ((0, 1), (0, 0))))

    def test_acts_as_tables(self):
        for rule in ACTS:
            expected = breach(as_table(rule))
            if expected is not None:
                expected = expected[:2] + (None,)
            self.assertEqual(breach(rule), expected)
        great = tuple(range(4001))
        self.assertIsNone(breach(("acts", (great,) * 5)))
        self.assertEqual(breach(("acts", (great, great[1:] + (0,)))), ("began", 0, None))
        self.assertEqual(breach(("acts", ((1, 2, 0), (0, 1, 2)))), ("twice", 0, None))
        self.assertEqual(breach(("acts", ((1, 2, 0), (0, 2, 1)))), ("began", 0, None))
        self.assertEqual(breach(("acts", ((1, 0, 3, 2), (0, 1, 2, 3)))), ("never", 0, None))
        self.assertEqual(breach(("acts", ((1, 0, 3, 2), (1, 2, 3, 0)))), ("began", 0, None))
        self.assertEqual(breach(("acts", ((1, 0),))), ("never", 0, None))
        # With six numbers pairs that change places do not help.
        six = ("acts", ((1, 0, 3, 2, 5, 4),))
        self.assertEqual(breach(six), ("began", 0, None))
        far = ((0, 2, 1, 4, 3, 5), 0)
        first = tuple(range(6)), 0
        self.assertTrue(fails_at(six, "began", 0, (first, far, first)))
        self.assertFalse(fails_at(six, "through", 0, (first, far, first)))

    def test_keeps_and_custom_of(self):
        rules = some_tables() + TOLD + ACTS
        for rule in rules:
            found = breach(rule)
            strongest = "never" if found is None else CUSTOMS[CUSTOMS.index(found[0]) - 1]
            self.assertEqual(custom_of(rule), strongest)
            for custom in CUSTOMS:
                self.assertIs(keeps(rule, custom), CUSTOMS.index(custom) <= CUSTOMS.index(strongest))
        for rule, far_rule in zip(rules[::5], rules[::-7]):
            weaker = min(custom_of(rule), custom_of(far_rule), key=CUSTOMS.index)
            self.assertEqual(common_custom(rule, far_rule), weaker)
            self.assertEqual(common_custom(far_rule, rule), weaker)

    def test_great_tables(self):
        turned = as_table(("turns", 200, (1,)))
        self.assertEqual(breach(turned), ("twice", 0, (0, 0)))
        self.assertEqual(breach(as_table(("turns", 40, (0, 0, 20, 0, 0)))), ("never", 0, (2, 0)))
        lines = [list(line) for line in turned[1]]
        lines[199][198], lines[199][199] = lines[199][199], lines[199][198]
        on = tuple(tuple(line) for line in lines)
        off = turned[2][:199] + (tuple(lines[199].index(c) for c in range(200)),)
        self.assertEqual(breach(("table", on, off))[:2], ("through", 0))

    def test_fails_at(self):
        for rule in some_tables()[::4]:
            for custom, number, many, fails in equations(rule):
                for colours in product(range(len(rule[1])), repeat=many):
                    self.assertIs(fails_at(rule, custom, number, colours), fails(*colours))
        for rule in (("turns", 4, (0, 2, 1)), ("acts", ((1, 2, 0), (0, 2, 1)))):
            table, colours = as_table(rule), colours_of(rule)
            for custom, number, many, fails in equations(table):
                for numbers in list(product(range(len(colours)), repeat=many))[::5]:
                    told = tuple(colours[at] for at in numbers)
                    self.assertIs(fails_at(rule, custom, number, told), fails(*numbers))


class TestWrongOnes(unittest.TestCase):
    rule = ("rule", ("table", ((0, 1, 2),) * 3, ((0, 1, 2),) * 3), wrong_told_rules())

    def test_rules_and_customs(self):
        for function in (custom_of, breach):
            try_refusals(self, function, self.rule)
        try_refusals(self, keeps, self.rule, ("custom", "through", wrong_customs()))
        try_refusals(self, common_custom, self.rule, ("far_rule", ("turns", 3, (1,)), wrong_told_rules()))

    def test_fails_at(self):
        for custom, numbers, places in (("back", 2, 2), ("through", 1, 3), ("began", 1, 3), ("twice", 1, 2),
                                        ("never", 1, 2)):
            wrong = [(value, BadNumber, VERY) for value in (
                numbers, -1, 10 ** 30, None, True, False, "0", "", (0,), [0], {}, NOTHING)]
            try_refusals(
                self, fails_at, self.rule, ("custom", custom, wrong_customs()), ("number", 0, wrong),
                ("colours", (0,) * places, wrong_table_colours(places, 3)))
        for number in (0, 1, -1, None):
            with self.assertRaises(BadNumber) as caught:
                fails_at(("turns", 2, (1,)), "any", number, None)
            self.assertIs(caught.exception.value, number)
        with self.assertRaises(BadColours) as caught:
            fails_at(("turns", 2, (1,)), "twice", 0, ((0, 0), 0))
        self.assertEqual(caught.exception.number, 1)


if __name__ == "__main__":
    unittest.main()
