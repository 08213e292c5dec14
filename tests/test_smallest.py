"""[33]: cordrules/smallest.py."""

import unittest
from itertools import combinations, permutations, product

from cordrules.breaches import keeps
from cordrules.filled import all_tables
from cordrules.likeness import are_alike
from cordrules.parting import check_parting
from cordrules.rows import order_of
from cordrules.rules import run_colours
from cordrules.smallest import first_parting, parting_count, smallest_acts, smallest_table
from helpers import (
    CUSTOMS, FAR_LONG, LONG, rows_to, some_rows, try_great, try_refusals, wrong_cords, wrong_customs, wrong_rows,
    wrong_tables)

ROW = (("left", 0), ("right", 1), ("left", 1))
FAR_ROW = (("left", 0), ("left", 1), ("left", 1))
MARKS = ("table", ((1, 0), (0, 1)), ((1, 0), (0, 1)))


def partings_of(cords, row, other, rule):
    """All colours, in their order, with which a table parts the rows, and the first place."""
    for colours in product(range(len(rule[1])), repeat=cords):
        one, far = run_colours(cords, row, rule, colours), run_colours(cords, other, rule, colours)
        if one != far:
            yield colours, next(place for place in range(cords) if one[place] != far[place])


def still(many):
    """The table of so many colours that changes none."""
    return ("table", (tuple(range(many)),) * many, (tuple(range(many)),) * many)


def pairs_of_rows(cords):
    most = {2: 4, 3: 3, 4: 2}[cords]
    rows = rows_to(cords, most)
    chosen = list(combinations(rows, 2))
    return chosen[::max(1, len(chosen) // 60)] + [(row, row) for row in rows[-2:]] + [(rows[-1], rows[3])]


class TestOneTable(unittest.TestCase):
    def test_small_tables(self):
        tables = list(all_tables(2, "any"))[::23] + list(all_tables(3, "back"))[::41] + [still(2), still(3), still(1)]
        for cords in (2, 3, 4):
            for rule in tables[:6 if cords == 4 else None]:
                for row, other in pairs_of_rows(cords)[::3]:
                    expected = list(partings_of(cords, row, other, rule))
                    found = first_parting(cords, row, other, rule)
                    self.assertEqual(found, expected[0] if expected else None)
                    self.assertEqual(parting_count(cords, row, other, rule), len(expected))

    def test_long_and_five_cords(self):
        for row in some_rows(5, 3, 60):
            self.assertIsNone(first_parting(5, row, row, MARKS))
            self.assertEqual(parting_count(5, row, row[:-1], MARKS), len(list(partings_of(5, row, row[:-1], MARKS))))
        self.assertEqual(first_parting(3, LONG, FAR_LONG, MARKS), next(partings_of(3, LONG, FAR_LONG, MARKS), None))
        self.assertEqual(first_parting(3, LONG, LONG[:-1], still(2)), ((0, 0, 1), 1))

    def test_too_many_colours(self):
        row = (("left", 0),)
        for cords, most in ((2, 64), (3, 16), (4, 8), (5, 5)):
            self.assertEqual(first_parting(cords, row, (), still(most)), ((0, 1) + (0,) * (cords - 2), 0))
            self.assertEqual(parting_count(cords, row, (), still(most)), most ** (cords - 1) * (most - 1))
            for function in (first_parting, parting_count):
                try_great(self, 4096, function, cords, row, (), still(most + 1))
                try_great(self, 4096, function, cords, (), (), still(200))

    def test_wrong_ones(self):
        for function in (first_parting, parting_count):
            try_refusals(
                self, function, ("cords", 3, wrong_cords()), ("row", ROW, wrong_rows(3)),
                ("other", FAR_ROW, wrong_rows(3)), ("rule", MARKS, wrong_tables()))


class TestSmallestTable(unittest.TestCase):
    def expected(self, cords, row, other, custom):
        for many in (1, 2) if custom == "any" else (1, 2, 3):
            for rule in all_tables(many, custom):
                for colours, place in partings_of(cords, row, other, rule):
                    return rule, colours, place
        return None

    def test_small_rows(self):
        for custom in CUSTOMS:
            for cords in (2, 3, 4):
                pairs = pairs_of_rows(cords)
                if custom in ("any", "back"):
                    pairs = pairs[::12]
                for row, other in pairs:
                    paper = smallest_table(cords, row, other, custom)
                    self.assertEqual(paper, self.expected(cords, row, other, custom))
                    if paper is not None:
                        self.assertIs(check_parting(cords, row, other, custom, paper), paper)
                        self.assertTrue(keeps(paper[0], custom))
                    if are_alike(cords, row, other, custom):
                        self.assertIsNone(paper)

    def test_named_ones(self):
        a = ("left", 0)
        self.assertEqual(smallest_table(2, (a,), (), "never"), (still(2), (0, 1), 0))
        self.assertIsNone(smallest_table(2, (a, a), (), "never"))
        # Three colours by "began": going round, of which two times make no difference by "twice".
        self.assertEqual(len(smallest_table(2, (a,) * 4, (), "began")[0][1]), 3)
        self.assertIsNone(smallest_table(2, (a,) * 4, (), "twice"))
        self.assertIsNone(smallest_table(2, (a,) * 12, (), "began"))
        self.assertEqual(smallest_table(2, (a, a), (), "any")[0], ("table", ((0, 0), (0, 0)), ((0, 0), (0, 0))))

    def test_rows_of_sixty(self):
        for custom in CUSTOMS:
            paper = smallest_table(3, LONG, LONG[:58], custom)
            self.assertEqual(paper, self.expected(3, LONG, LONG[:58], custom))
            self.assertIsNone(smallest_table(3, LONG, LONG, custom))
            row = some_rows(4, 1, 60)[0]
            paper = smallest_table(4, row, row[:-1], custom)
            self.assertIs(check_parting(4, row, row[:-1], custom, paper), paper)

    def test_facts(self):
        for table in all_tables(2, "through"):
            self.assertTrue(keeps(table, "twice"))
        for cords in (2, 3):
            for row, other in pairs_of_rows(cords):
                paper = smallest_table(cords, row, other, "never")
                self.assertEqual(paper is None, order_of(cords, row) == order_of(cords, other))

    def test_wrong_ones(self):
        try_refusals(
            self, smallest_table, ("cords", 3, wrong_cords()), ("row", ROW, wrong_rows(3)),
            ("other", FAR_ROW, wrong_rows(3)), ("custom", "twice", wrong_customs()))
        try_great(self, 4, smallest_table, 5, ROW, FAR_ROW, "never")
        try_great(self, 4, smallest_table, 5, (), (), "any")


class TestSmallestActs(unittest.TestCase):
    def expected(self, cords, row, other):
        for many in (1, 2, 3):
            start = tuple((tuple(range(many)), cord) for cord in range(cords))
            for acts in product(permutations(range(many)), repeat=cords):
                rule = ("acts", acts)
                one, far = run_colours(cords, row, rule, start), run_colours(cords, other, rule, start)
                if one != far:
                    return rule, start, next(place for place in range(cords) if one[place] != far[place])
        return None

    def test_small_rows(self):
        for cords in (2, 3, 4):
            for row, other in pairs_of_rows(cords)[::1 if cords < 4 else 4]:
                paper = smallest_acts(cords, row, other)
                self.assertEqual(paper, self.expected(cords, row, other))
                if paper is None:
                    continue
                self.assertIs(check_parting(cords, row, other, "through", paper), paper)
                many = len(paper[0][1][0])
                self.assertEqual(many == 1, order_of(cords, row) != order_of(cords, other))
                self.assertEqual(many <= 2, not are_alike(cords, row, other, "twice"))

    def test_named_ones(self):
        a, b = ("left", 0), ("left", 1)
        self.assertEqual(smallest_acts(2, (a,), ()), (("acts", ((0,), (0,))), (((0,), 0), ((0,), 1)), 0))
        self.assertEqual(len(smallest_acts(2, (a,) * 4, ())[0][1][0]), 3)
        self.assertIsNone(smallest_acts(3, (a, b, a), (b, a, b)))
        self.assertIsNone(smallest_acts(2, (a,) * 12, ()))
        # Long rows are taken.
        for other in (LONG[:-2], FAR_LONG, LONG, ()):
            self.assertEqual(smallest_acts(3, LONG, other), self.expected(3, LONG, other))

    def test_any_colours_do_no_more(self):
        for row, other in list(combinations(rows_to(2, 5), 2))[::11]:
            for many in (2, 3):
                leads = list(permutations(range(many)))
                parted = False
                for letters in (1, 2):
                    for acts in product(leads, repeat=letters):
                        rule = ("acts", acts)
                        colours = [(lead, letter) for lead in leads for letter in range(letters)]
                        for start in list(product(colours, repeat=2))[::1 if many == 2 else 7]:
                            one, far = run_colours(2, row, rule, start), run_colours(2, other, rule, start)
                            parted = parted or one != far
                paper = smallest_acts(2, row, other)
                if parted:
                    self.assertLessEqual(len(paper[0][1][0]), many)

    def test_wrong_ones(self):
        try_refusals(
            self, smallest_acts, ("cords", 3, wrong_cords()), ("row", ROW, wrong_rows(3)),
            ("other", FAR_ROW, wrong_rows(3)))
        try_great(self, 4, smallest_acts, 5, ROW, FAR_ROW)
        try_great(self, 4, smallest_acts, 5, (), ())


if __name__ == "__main__":
    unittest.main()
