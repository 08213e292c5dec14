"""[12], [18], [23]: cordrules/rules.py."""

import unittest
from itertools import product

from cordrules.errors import BadColours
from cordrules.rules import (
    as_table, colours_of, is_colour, need_colours, need_rule, off_colour, on_colour, run_colours, way_of_colours)
from helpers import (
    NOTHING, rows_to, some_rows, try_great, try_refusals, worked, wrong_cords, wrong_rows, wrong_table_colours,
    wrong_told_rules)

TABLE = ("table", ((0, 1, 2), (2, 0, 1), (1, 1, 1)), ((0, 0, 0), (1, 2, 0), (2, 1, 0)))
ACTS = ("acts", ((1, 2, 0), (0, 2, 1)))
TURNS = ("turns", 6, (0, 1, 5))
ROW = (("left", 0), ("right", 1), ("left", 1))
RULES = (TABLE, ACTS, TURNS, ("table", ((0,),), ((0,),)), ("acts", ((0,),)), ("turns", 1, (0,)),
         ("acts", ((1, 0),) * 5), ("acts", ((1, 0, 3, 2), (2, 3, 0, 1))))


def acted(rule, side, over, under):
    """ON and OFF of "acts", number by number."""
    found = []
    for number in range(len(rule[1][0])):
        now = under[0][number]
        now = over[0].index(now)
        now = rule[1][over[1]][now] if side == "left" else rule[1][over[1]].index(now)
        found.append(over[0][now])
    return tuple(found), under[1]


def brought(rule, side, over, under):
    """ON and OFF, from the words of the document."""
    if rule[0] == "table":
        return rule[1 if side == "left" else 2][over][under]
    if rule[0] == "acts":
        return acted(rule, side, over, under)
    weight = rule[2][over[1]] * (1 if side == "left" else -1)
    return (under[0] + weight) % rule[1], under[1]


class TestRules(unittest.TestCase):
    def test_need_rule_gives_the_rule_itself(self):
        for rule in RULES:
            self.assertIs(need_rule(rule), rule)
        self.assertIs(need_colours(3, TURNS, (p := ((0, 0), (5, 2), (1, 1)))), p)
        for many in (1, 200):
            rule = ("table", (tuple(range(many)),) * many, (tuple(range(many)),) * many)
            self.assertIs(need_rule(rule), rule)
        great = ("acts", (tuple(range(4001)),) * 5)
        self.assertIs(need_rule(great), great)
        great = ("turns", 10 ** 6, (999999, 0, 1, 2, 3))
        self.assertIs(need_rule(great), great)

    def test_colours(self):
        self.assertEqual(colours_of(TABLE), (0, 1, 2))
        self.assertEqual(colours_of(("turns", 2, (0, 1))), ((0, 0), (0, 1), (1, 0), (1, 1)))
        self.assertEqual(colours_of(("acts", ((0, 1),) * 2)), (
            ((0, 1), 0), ((0, 1), 1), ((1, 0), 0), ((1, 0), 1)))
        for rule in RULES:
            colours = colours_of(rule)
            self.assertEqual(colours, tuple(sorted(set(colours))))
            for colour in colours:
                self.assertTrue(is_colour(rule, colour))
        self.assertEqual(len(colours_of(ACTS)), 12)
        self.assertEqual(len(colours_of(("acts", ((0, 1, 2, 3, 4, 5),) * 2))), 1440)
        self.assertEqual(len(colours_of(("turns", 400, (0,) * 5))), 2000)
        try_great(self, 2000, colours_of, ("turns", 401, (0,) * 5))
        try_great(self, 2000, colours_of, ("turns", 2001, (0,)))
        try_great(self, 2000, colours_of, ("acts", ((0, 1, 2, 3, 4, 5),) * 3))
        try_great(self, 2000, colours_of, ("acts", (tuple(range(4001)),)))

    def test_is_colour(self):
        odd = [None, True, False, -1, "0", "", [], [0], {}, NOTHING, (), (0,), (0, 0, 0), 10 ** 40]
        for value in odd + [3, (0, 0)]:
            self.assertFalse(is_colour(TABLE, value))
        for value in odd + [0, (6, 0), (-1, 0), (0, 3), (0, -1), (True, 0), (0, True), ("0", 0), (0, "0"), [0, 0],
                            ((0,), 0), (None, 0), (0, None)]:
            self.assertFalse(is_colour(TURNS, value))
        for value in odd + [0, (0, 0), ((0, 1), 0), ((0, 1, 2, 3), 0), ((0, 1, 1), 0), ((0, 1, 3), 0), ([0, 1, 2], 0),
                            ((0, 1, 2), 2), ((0, 1, 2), -1), ((0, 1, 2), True), ((False, 1, 2), 0), ((0, 1, "2"), 0),
                            ((0, 1, None), 0), ((0, 1, 2),), ((0, 1, 2, 0), 0), [(0, 1, 2), 0],
                            ((0, 1, (2,)), 0), (None, 0)]:
            self.assertFalse(is_colour(ACTS, value))
        self.assertTrue(is_colour(ACTS, ((2, 0, 1), 1)))
        self.assertTrue(is_colour(TURNS, (5, 2)))

    def test_on_and_off(self):
        for rule in RULES:
            for over, under in product(colours_of(rule), repeat=2):
                self.assertEqual(on_colour(rule, over, under), brought(rule, "left", over, under))
                self.assertEqual(off_colour(rule, over, under), brought(rule, "right", over, under))
        self.assertEqual(on_colour(TURNS, (2, 1), (5, 0)), (0, 0))
        self.assertEqual(off_colour(TURNS, (2, 1), (0, 0)), (5, 0))
        self.assertEqual(on_colour(ACTS, ((0, 1, 2), 0), ((0, 1, 2), 1)), ((1, 2, 0), 1))
        self.assertEqual(off_colour(ACTS, ((0, 1, 2), 0), ((0, 1, 2), 1)), ((2, 0, 1), 1))

    def test_told_rules_keep_what_the_facts_say(self):
        for rule in RULES:
            if rule[0] == "table":
                continue
            colours = colours_of(rule)
            for a, b in product(colours, repeat=2):
                self.assertEqual(off_colour(rule, a, on_colour(rule, a, b)), b)
                self.assertEqual(on_colour(rule, a, off_colour(rule, a, b)), b)
            for a, b, c in product(colours[::2], repeat=3):
                inner = on_colour(rule, b, c)
                carried = on_colour(rule, on_colour(rule, a, b), on_colour(rule, a, c))
                self.assertEqual(on_colour(rule, a, inner), carried)
                if rule[0] == "turns":
                    self.assertEqual(on_colour(rule, on_colour(rule, a, b), c), inner)


class TestRuns(unittest.TestCase):
    def test_runs(self):
        for cords in (2, 3):
            for rule in RULES:
                colours = colours_of(rule)
                starts = [tuple(colours[(seed * k + k) % len(colours)] for k in range(cords)) for seed in range(4)]
                for row in rows_to(cords, 3):
                    for start in starts:
                        expected = worked(start, row, lambda *told: brought(rule, *told))
                        self.assertEqual(run_colours(cords, row, rule, start), expected)
                        way = way_of_colours(cords, row, rule, start)
                        self.assertEqual(way, tuple(
                            run_colours(cords, row[:many], rule, start) for many in range(len(row) + 1)))

    def test_long_runs(self):
        for cords in (2, 5):
            for row in some_rows(cords, 3, 60):
                for rule in RULES:
                    start = (colours_of(rule)[-1],) * cords
                    expected = worked(start, row, lambda *told: brought(rule, *told))
                    self.assertEqual(run_colours(cords, row, rule, start), expected)
                    self.assertEqual(len(way_of_colours(cords, row, rule, start)), 61)
        many = 4001
        rule = ("acts", (tuple(range(1, many)) + (0,), tuple(range(many))))
        start = ((tuple(range(many)), 0), (tuple(range(many)), 1))
        self.assertEqual(
            run_colours(2, (("left", 0), ("left", 0)), rule, start),
            ((tuple(range(many)), 0), (tuple(range(1, many)) + (0,), 1)))

    def test_first_colours_stay(self):
        start = (0, 1, 2)
        self.assertEqual(run_colours(3, (), TABLE, start), start)
        self.assertEqual(way_of_colours(3, (), TABLE, start), (start,))
        self.assertEqual(run_colours(3, (("left", 0),), TABLE, (2, 0, 1)), (1, 2, 1))
        self.assertEqual(run_colours(3, (("right", 0),), TABLE, (2, 1, 1)), (1, 0, 1))


class TestAsTable(unittest.TestCase):
    def test_as_table(self):
        self.assertIs(as_table(TABLE), TABLE)
        self.assertEqual(as_table(("turns", 2, (1,))), ("table", ((1, 0), (1, 0)), ((1, 0), (1, 0))))
        for rule in RULES:
            colours = colours_of(rule)
            table = as_table(rule)
            self.assertIs(need_rule(table), table)
            for over, under in product(range(len(colours)), repeat=2):
                self.assertEqual(
                    colours[on_colour(table, over, under)], on_colour(rule, colours[over], colours[under]))
                self.assertEqual(
                    colours[off_colour(table, over, under)], off_colour(rule, colours[over], colours[under]))

    def test_greatest_tables(self):
        table = ("table", (tuple(range(200)),) * 200, (tuple(range(200))[::-1],) * 200)
        self.assertIs(as_table(table), table)
        self.assertEqual(colours_of(table), tuple(range(200)))

    def test_sizes(self):
        self.assertEqual(len(as_table(("turns", 40, (0, 1, 2, 3, 4)))[1]), 200)
        self.assertEqual(len(as_table(("turns", 200, (7,)))[1]), 200)
        try_great(self, 200, as_table, ("turns", 41, (0, 1, 2, 3, 4)))
        try_great(self, 200, as_table, ("turns", 201, (7,)))
        self.assertEqual(len(as_table(("acts", ((0, 1, 2, 3, 4),)))[1]), 120)
        try_great(self, 200, as_table, ("acts", ((0, 1, 2, 3, 4),) * 2))
        try_great(self, 200, as_table, ("acts", (tuple(range(4001)),)))


class TestWrongOnes(unittest.TestCase):
    def test_rules(self):
        for function in (need_rule, colours_of, as_table):
            try_refusals(self, function, ("rule", TURNS, wrong_told_rules()))
        try_refusals(self, is_colour, ("rule", TURNS, wrong_told_rules()), ("value", (0, 0), []))

    def test_colours(self):
        places = ("colours", (0, 1, 2), wrong_table_colours(3, 3))
        rule = ("rule", TABLE, wrong_told_rules())
        cords = ("cords", 3, wrong_cords())
        row = ("row", ROW, wrong_rows(3))
        try_refusals(self, need_colours, cords, rule, places)
        try_refusals(self, run_colours, cords, row, rule, places)
        try_refusals(self, way_of_colours, cords, row, rule, places)
        acts = [(((0, 1, 2), 0), (0, 0)), (((0, 1, 2), 0), ((0, 1, 1), 0)), (((0, 1, 2), 0), ((0, 1, 2), 2))]
        turns = [((0, 0), 0), ((0, 0), (6, 0)), ((0, 0), (0, 3)), ((0, 0), (0, True)), ((0, 0), [0, 0])]
        for told, colours in [(ACTS, pair) for pair in acts] + [(TURNS, pair) for pair in turns]:
            with self.assertRaises(BadColours) as caught:
                need_colours(2, told, colours)
            self.assertEqual(caught.exception.number, 1)

    def test_over_and_under(self):
        values = (None, True, False, 3, -1, "0", "", (0,), [0], {}, 10 ** 30, NOTHING)
        for function in (on_colour, off_colour):
            try_refusals(
                self, function, ("rule", TABLE, wrong_told_rules()),
                ("over", 1, [(value, BadColours, 0) for value in values]),
                ("under", 2, [(value, BadColours, 1) for value in values]))


if __name__ == "__main__":
    unittest.main()
