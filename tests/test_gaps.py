"""[55]: cordrules/gaps.py."""

import unittest

from cordrules.breaches import keeps
from cordrules.errors import BadColours, BadName, BadRule
from cordrules.filled import all_tables
from cordrules.gaps import does_fill, fillings, gaps_of, need_gapped, sure_table, with_item
from helpers import (
    CUSTOMS, NOTHING, VERY, try_great, try_one, try_refusals, wrong_customs, wrong_numbers, wrong_told_rules)
from looking import EMPTY, PART, does_fit, gapped_from, gaps, wrong_colour_things, wrong_gapped


def some_gapped():
    """Gapped tables of one, two and three colours."""
    found = [gaps(1), gaps(2), gaps(3), PART, ("table", ((0,),), ((None,),)), ("table", ((0,),), ((0,),))]
    for number, rule in enumerate(list(all_tables(2, "any"))[::19] + list(all_tables(3, "back"))[::29]):
        found += [gapped_from(rule, number), rule]
    # Nothing that keeps "back" brings one colour to two.
    return found + [("table", ((0, 0), (None, None)), EMPTY[2]), ("table", ((1, None), (None, None)), ((0, None),) * 2)]


class TestGaps(unittest.TestCase):
    def test_fillings(self):
        for gapped in some_gapped():
            many = len(gapped[1])
            self.assertIs(need_gapped(gapped), gapped)
            for custom in CUSTOMS:
                if many == 3 and custom == "any":
                    try_great(self, 2, fillings, gapped, custom)
                    try_great(self, 2, sure_table, gapped, custom)
                    continue
                tables = all_tables(many, custom)
                expected = tuple(rule for rule in tables if does_fit(rule, gapped, ()))
                self.assertEqual(fillings(gapped, custom), expected)
                self.assertEqual(sure_table(gapped, custom), shared(expected))
                for rule in tables[::7]:
                    self.assertIs(does_fill(gapped, rule), rule in expected)
        self.assertEqual(len(fillings(EMPTY, "any")), 256)
        self.assertEqual(fillings(("table", ((0, 0), (None, None)), EMPTY[2]), "back"), ())
        self.assertIsNone(sure_table(("table", ((0, 0), (None, None)), EMPTY[2]), "back"))
        self.assertEqual(sure_table(("table", ((0, None), (1, None)), EMPTY[2]), "back"),
                         ("table", ((0, 1), (1, 0)), ((0, 1), (1, 0))))
        self.assertEqual(sure_table(gaps(3), "never"), ("table", ((0, 1, 2),) * 3, ((0, 1, 2),) * 3))

    def test_fill(self):
        for gapped in (EMPTY, PART, gaps(1), gaps(3)):
            for rule in all_tables(1, "any") + all_tables(2, "any")[::5] + all_tables(3, "back")[::9]:
                self.assertIs(does_fill(gapped, rule), len(rule[1]) == len(gapped[1]) and does_fit(rule, gapped, ()))
            for rule in (("acts", ((0, 1),)), ("turns", 2, (0,)), ("turns", 1, (0,))):
                self.assertIs(does_fill(gapped, rule), False)
        self.assertIs(does_fill(gaps(2), ("table", ((0,) * 200,) * 200, ((0,) * 200,) * 200)), False)

    def test_gaps_of(self):
        for many in (1, 2, 3):
            self.assertEqual(gaps_of(many), gaps(many))
        try_refusals(self, gaps_of, ("many", 2, wrong_numbers(1, 3)))

    def test_with_item(self):
        for gapped in (EMPTY, PART, gaps(1), gaps(3), ("table", ((0, 1), (1, 0)), ((0, 0), (1, 1)))):
            many = len(gapped[1])
            for part, side in ((1, "left"), (2, "right")):
                for over in range(many):
                    for under in range(many):
                        for value in [None] + list(range(many)):
                            changed = [[list(line) for line in square] for square in gapped[1:]]
                            changed[part - 1][over][under] = value
                            expected = ("table",) + tuple(tuple(map(tuple, square)) for square in changed)
                            self.assertEqual(with_item(gapped, side, over, under, value), expected)


class TestRefusals(unittest.TestCase):
    def test_arguments(self):
        gapped = ("gapped", PART, wrong_gapped())
        customs = ("custom", "back", wrong_customs())
        try_refusals(self, need_gapped, gapped)
        try_refusals(self, does_fill, gapped, ("rule", ("turns", 2, (0,)), wrong_told_rules()))
        try_refusals(self, fillings, gapped, customs)
        try_refusals(self, sure_table, gapped, customs)
        sides = [(value, BadName, VERY) for value in (None, True, 0, "", "Left", "on", ("left",), ["left"], {},
        NOTHING)]
        colours = [[(value, BadColours, number) for value in wrong_colour_things(2)] for number in range(3)]
        try_refusals(self, with_item, gapped, ("side", "left", sides),
                     ("over", 0, colours[0] + [(None, BadColours, 0)]),
                     ("under", 1, colours[1] + [(None, BadColours, 1)]), ("value", None, colours[2]))
        try_one(self, with_item, {"gapped": gaps(1), "side": "left", "over": 0, "under": 0, "value": 1},
                1, BadColours, 2)

    def test_three_colours(self):
        full = ("table", ((0, 1, 2),) * 3, ((0, 1, 2),) * 3)
        for gapped in (full, gaps(3)):
            try_great(self, 2, fillings, gapped, "any")
            try_great(self, 2, sure_table, gapped, "any")
        self.assertEqual(fillings(full, "back"), (full,))
        try_one(self, fillings, {"gapped": ("table", gaps(4)[1], gaps(4)[2]), "custom": "any"}, 0, BadRule, "on")


def shared(tables):
    """The colours that all tables have, from the words of the document."""
    if not tables:
        return None
    assert all(keeps(rule, "any") for rule in tables)
    many = range(len(tables[0][1]))
    squares = []
    for part in (1, 2):
        squares.append(tuple(tuple(
            tables[0][part][over][under] if len({rule[part][over][under] for rule in tables}) == 1 else None
            for under in many) for over in many))
    return ("table", squares[0], squares[1])


if __name__ == "__main__":
    unittest.main()
