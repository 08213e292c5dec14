"""[54]: cordrules/brought.py."""

import unittest

from cordrules.breaches import keeps
from cordrules.brought import (
    brought_from, brought_paper, check_brought, rounds_of, row_brought, rows_brought, still_ones)
from cordrules.errors import BadNumber, BadPaper
from helpers import (
    crossings, rows_of, rows_to, table_change, try_great, try_one, try_refusals, worked, wrong_cords, wrong_numbers,
    wrong_table_colours, wrong_tables)
from seeing import (
    COPY, MARKS, colourings, few_tables, mixed, rows_that_are_none, still, try_papers, turning, wild)

a, ra = ("left", 0), ("right", 0)


def leads(colours, row, rule):
    return worked(colours, row, table_change(rule))


def first_rows(cords, rule, colours):
    """For each colouring that is brought the first row that leads there, ascending."""
    found = {colours: ()}
    level = [colours]
    while level:
        behind = []
        for here in level:
            for crossing in crossings(cords):
                end = leads(here, (crossing,), rule)
                if end not in found:
                    found[end] = found[here] + (crossing,)
                    behind.append(end)
        level = behind
    return found


class TestBrought(unittest.TestCase):
    def test_beside_all_rows(self):
        for cords, most in ((2, 6), (3, 3)):
            for rule in few_tables()[::1 if cords == 2 else 4]:
                for colours in colourings(cords, rule)[::3]:
                    found = brought_from(cords, rule, colours)
                    short = {}
                    for row in rows_to(cords, most):
                        short.setdefault(leads(colours, row, rule), row)
                    self.assertEqual(list(found)[:len(short)], list(short))
                    for goal in colourings(cords, rule):
                        row = row_brought(cords, rule, colours, goal)
                        self.assertEqual(row is not None, goal in found)
                        if goal in short:
                            self.assertEqual(row, short[goal])
                        paper = brought_paper(cords, rule, colours, goal)
                        self.assertIs(check_brought(cords, rule, colours, goal, paper), goal in found)

    def test_all_of_some(self):
        for cords, rule in ((2, wild(16)), (2, mixed(16)), (3, wild(6)), (4, mixed(4)), (5, wild(3)), (5, MARKS)):
            for colours in colourings(cords, rule)[::71]:
                first = first_rows(cords, rule, colours)
                self.assertEqual(brought_from(cords, rule, colours), tuple(first))
                for goal in colourings(cords, rule)[::17]:
                    self.assertEqual(row_brought(cords, rule, colours, goal), first.get(goal))
        self.assertEqual(brought_from(3, COPY, (0, 1, 1)), ((0, 1, 1), (0, 0, 1), (1, 1, 1), (0, 0, 0)))

    def test_rounds(self):
        for cords, rules in ((2, few_tables() + [wild(8), mixed(16)]), (3, [COPY, MARKS, wild(3), still(3), wild(6)])):
            for rule in rules:
                brought = {one: set(brought_from(cords, rule, one)) for one in colourings(cords, rule)}
                rounds = rounds_of(cords, rule)
                self.assertEqual(rounds, tuple(sorted(rounds)))
                self.assertEqual(sorted(one for part in rounds for one in part), colourings(cords, rule))
                for part in rounds:
                    for one in colourings(cords, rule)[::5]:
                        self.assertEqual(one in part, one in brought[part[0]] and part[0] in brought[one])
                    self.assertEqual(part, tuple(sorted(part)))
                    if keeps(rule, "back"):
                        self.assertEqual(set(part), brought[part[0]])

    def test_still(self):
        for cords in (2, 3):
            for rule in few_tables() + [wild(5, seed) for seed in range(9)]:
                expected = [one for one in colourings(cords, rule)
                            if all(leads(one, row, rule) == one for row in rows_of(cords, 1))]
                self.assertEqual(still_ones(cords, rule), tuple(expected))
                by_fact = [(colour,) * cords for colour in range(len(rule[1]))
                           if rule[1][colour][colour] == colour == rule[2][colour][colour]]
                self.assertEqual(expected, by_fact)

    def test_limits(self):
        for cords, many in ((2, 16), (3, 6), (4, 4), (5, 3)):
            start = (0,) * cords
            self.assertEqual(brought_from(cords, still(many), start), (start,))
            self.assertEqual(len(still_ones(cords, still(many))), many)
            great = still(many + 1)
            for function in (rounds_of, still_ones):
                try_great(self, 256, function, cords, great)
            try_great(self, 256, brought_from, cords, great, start)
            try_great(self, 256, row_brought, cords, great, start, start)
            try_great(self, 256, brought_paper, cords, great, start, start)
            try_great(self, 256, check_brought, cords, great, start, start, None)
            try_great(self, 256, rows_brought, cords, great, start, start, 0)
            try_one(self, rows_brought, {"cords": cords, "rule": great, "colours": start, "goal": start, "many": 61},
                    61, BadNumber, 61)


class TestCounts(unittest.TestCase):
    def test_beside_all_rows(self):
        for cords, most in ((2, 6), (3, 3)):
            for rule in few_tables()[::3 if cords == 2 else 9]:
                for colours in colourings(cords, rule)[::2]:
                    for many in range(most + 1):
                        ends = [leads(colours, row, rule) for row in rows_of(cords, many)]
                        for goal in colourings(cords, rule)[::2]:
                            self.assertEqual(rows_brought(cords, rule, colours, goal, many), ends.count(goal))

    def test_many(self):
        for rule in (COPY, turning(3), mixed(4)):
            for many in (0, 1, 59, 60):
                goals = brought_from(3, rule, (0, 1, 0))
                self.assertEqual(sum(rows_brought(3, rule, (0, 1, 0), goal, many) for goal in goals), 4 ** many)
        self.assertEqual(rows_brought(2, still(2), (0, 1), (0, 1), 60), 2 ** 60)
        self.assertEqual(rows_brought(2, still(2), (0, 1), (1, 0), 60), 0)


class TestRefusals(unittest.TestCase):
    def test_arguments(self):
        cords, rule = ("cords", 2, wrong_cords()), ("rule", MARKS, wrong_tables())
        colours, goal = ("colours", (0, 0), wrong_table_colours(2, 2)), ("goal", (1, 0), wrong_table_colours(2, 2))
        try_refusals(self, brought_from, cords, rule, colours)
        try_refusals(self, row_brought, cords, rule, colours, goal)
        try_refusals(self, brought_paper, cords, rule, colours, goal)
        try_refusals(self, rounds_of, cords, rule)
        try_refusals(self, still_ones, cords, rule)
        try_refusals(self, rows_brought, cords, rule, colours, goal, ("many", 3, wrong_numbers(0, 60)))
        try_refusals(self, check_brought, cords, rule, colours, goal, (
            "paper", ("row", (a,)), [(None, BadPaper, "form"), (("row", (ra,) * 3), BadPaper, "row"),
                                     (("rows", (), ()), BadPaper, "form")]))

    def test_bent_papers(self):
        wrong = [(("row", row), "row") for row in rows_that_are_none(2) + [(), (ra,)]]
        wrong += [(("closed", value), "closed") for value in [None, (), ((0, 1),), ((0, 1), (0, 0)), [(0, 1)]]]
        try_papers(self, check_brought, (2, COPY, (0, 1), (0, 0)), ("row", (a,)), *wrong)
        self.assertIs(check_brought(2, COPY, (0, 1), (0, 0), ("row", (a,) * 10000)), True)
        good = ((0, 1), (0, 0), (1, 1))
        wrong = [(("closed", good[:at] + good[at + 1:]), "closed") for at in range(3)]
        wrong += [(("closed", good + (value,)), "closed") for value in (
            None, True, 0, (), (0,), (0, 2), (0, True), [0, 0], (0, 0, 0), "00", (0, 0), (1, 0), (None, 0))]
        wrong += [(("closed", value), "closed") for value in (None, 0, list(good), (), "no", {})]
        wrong += [(("row", row), "row") for row in ((), (a,), (ra,), (a,) * 10001)]
        try_papers(self, check_brought, (2, COPY, (0, 1), (1, 0)), ("closed", good), *wrong)
        self.assertIs(check_brought(2, COPY, (0, 1), (1, 0), ("closed", good[::-1])), False)
        # What is brought from another colouring as well may stand there.
        self.assertIs(check_brought(2, COPY, (0, 0), (1, 0), ("closed", good)), False)


if __name__ == "__main__":
    unittest.main()
