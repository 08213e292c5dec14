"""[25]: cordrules/tables.py."""

import unittest
from itertools import combinations, permutations, product

from cordrules.breaches import keeps
from cordrules.errors import BadColours
from cordrules.filled import all_tables
from cordrules.likeness import customs
from cordrules.rules import as_table, run_colours
from cordrules.tables import (
    closed_lots, closed_with, is_closed, least_table, pair_table, renamed_table, renamings_between, table_within)
from helpers import NOTHING, some_rows, try_great, try_refusals, wrong_tables

TABLE = ("table", ((0, 1, 2), (2, 1, 1), (1, 1, 1)), ((0, 1, 0), (1, 1, 2), (2, 2, 1)))
SMALL = all_tables(2, "any") + all_tables(3, "back")[::7] + (TABLE,)


def still(many):
    """The table that never changes colours."""
    return ("table", (tuple(range(many)),) * many, (tuple(range(many)),) * many)


def lots_of(many):
    return sorted(lot for size in range(1, many + 1) for lot in combinations(range(many), size))


def is_really_closed(rule, lot):
    return all(lines[a][c] in lot for lines in rule[1:] for a in lot for c in lot)


class TestLots(unittest.TestCase):
    def test_closed(self):
        for rule in SMALL:
            lots = lots_of(len(rule[1]))
            closed = [lot for lot in lots if is_really_closed(rule, lot)]
            self.assertEqual(closed_lots(rule), tuple(closed))
            for lot in lots:
                self.assertEqual(is_closed(rule, lot), lot in closed)
                least = closed_with(rule, lot)
                self.assertIn(least, closed)
                self.assertTrue(set(lot) <= set(least))
                for other in closed:
                    if set(lot) <= set(other):
                        self.assertTrue(set(least) <= set(other))

    def test_small_ones(self):
        self.assertEqual(closed_lots(TABLE), ((0,), (0, 1, 2), (1,), (1, 2)))
        self.assertEqual(closed_with(TABLE, (0, 1)), (0, 1, 2))
        self.assertEqual(table_within(TABLE, (1, 2)), ("table", ((0, 0), (0, 0)), ((0, 1), (1, 0))))
        self.assertEqual(table_within(TABLE, (0, 1, 2)), TABLE)

    def test_within(self):
        for rule in SMALL:
            for lot in closed_lots(rule):
                within = table_within(rule, lot)
                for custom in customs():
                    if keeps(rule, custom):
                        self.assertTrue(keeps(within, custom))
                for row in some_rows(3, 2, 8):
                    for colours in list(product(range(len(lot)), repeat=3))[::5]:
                        told = run_colours(3, row, rule, tuple(lot[c] for c in colours))
                        self.assertEqual(tuple(lot[c] for c in run_colours(3, row, within, colours)), told)

    def test_sizes(self):
        self.assertEqual(len(closed_lots(still(10))), 1023)
        try_great(self, 10, closed_lots, still(11))
        self.assertTrue(is_closed(still(200), (0, 199)))
        self.assertEqual(closed_with(as_table(("turns", 200, (1,))), (7,)), tuple(range(200)))


class TestRenamed(unittest.TestCase):
    def test_renamed(self):
        for rule in SMALL:
            many = len(rule[1])
            tables = {}
            for renaming in permutations(range(many)):
                renamed = renamed_table(rule, renaming)
                tables.setdefault(renamed, []).append(renaming)
                for a, c in product(range(many), repeat=2):
                    for lines, new in zip(rule[1:], renamed[1:]):
                        self.assertEqual(new[renaming[a]][renaming[c]], renaming[lines[a][c]])
            self.assertEqual(least_table(rule), min(tables))
            for renamed, found in tables.items():
                self.assertEqual(renamings_between(rule, renamed), tuple(sorted(found)))

    def test_what_stays(self):
        for rule in SMALL[::9]:
            renaming = tuple(range(len(rule[1])))[::-1]
            renamed = renamed_table(rule, renaming)
            for custom in customs():
                self.assertEqual(keeps(rule, custom), keeps(renamed, custom))
            for row in some_rows(3, 2, 8):
                for colours in list(product(renaming, repeat=3))[::5]:
                    told = tuple(renaming[c] for c in run_colours(3, row, rule, colours))
                    self.assertEqual(run_colours(3, row, renamed, tuple(renaming[c] for c in colours)), told)

    def test_none_between(self):
        self.assertEqual(renamings_between(still(2), still(3)), ())
        self.assertEqual(renamings_between(still(3), as_table(("turns", 3, (1,)))), ())
        self.assertEqual(renamings_between(still(1), still(1)), ((0,),))

    def test_sizes(self):
        self.assertEqual(len(renamings_between(still(7), still(7))), 5040)
        self.assertEqual(least_table(still(7)), still(7))
        try_great(self, 7, least_table, still(8))
        try_great(self, 7, renamings_between, still(8), still(2))
        try_great(self, 7, renamings_between, still(2), still(8))
        try_great(self, 7, renamings_between, still(8), still(8))
        self.assertEqual(renamed_table(still(200), tuple(range(200))[::-1]), still(200))


class TestPairs(unittest.TestCase):
    def test_pairs(self):
        for rule, far_rule in product(SMALL[::23], SMALL[::31]):
            pairs = pair_table(rule, far_rule)
            far_many = len(far_rule[1])
            for custom in customs():
                if keeps(rule, custom) and keeps(far_rule, custom):
                    self.assertTrue(keeps(pairs, custom))
            for row in some_rows(2, 2, 6):
                for colours in list(product(range(len(pairs[1])), repeat=2))[::4]:
                    first = run_colours(2, row, rule, tuple(c // far_many for c in colours))
                    second = run_colours(2, row, far_rule, tuple(c % far_many for c in colours))
                    self.assertEqual(
                        run_colours(2, row, pairs, colours), tuple(a * far_many + b for a, b in zip(first, second)))

    def test_sizes(self):
        self.assertEqual(pair_table(still(2), still(3)), still(6))
        self.assertEqual(pair_table(still(1), still(200)), still(200))
        self.assertEqual(pair_table(still(20), still(10)), still(200))
        try_great(self, 200, pair_table, still(3), still(67))
        try_great(self, 200, pair_table, still(200), still(200))


class TestWrongOnes(unittest.TestCase):
    rule = ("rule", TABLE, wrong_tables())

    def test_lots(self):
        whole = [(value, BadColours, None) for value in (None, True, 0, "", "0", (), [], [0], {}, NOTHING)]
        wrong = []
        for thing in (None, True, False, 3, -1, "0", (0,), [0], 10 ** 30, NOTHING):
            wrong.append(((thing,), BadColours, 0))
            wrong.append(((0, thing), BadColours, 1))
            wrong.append(((1, thing, 0), BadColours, 1))
        wrong += [((0, 0), BadColours, 1), ((1, 0), BadColours, 1), ((0, 1, 2, 3), BadColours, 3),
                  ((0, 2, 1), BadColours, 2)]
        lot = ("colours", (1, 2), whole + wrong)
        for function in (is_closed, closed_with):
            try_refusals(self, function, self.rule, lot)
        open_lots = [((0, 1), BadColours, "closed"), ((0, 2), BadColours, "closed"), ((2,), BadColours, "closed")]
        try_refusals(self, table_within, self.rule, ("colours", (1, 2), whole + wrong + open_lots))

    def test_renamings(self):
        whole = [(value, BadColours, None) for value in (
            None, True, 0, "", "012", (), [], [0, 1, 2], {}, NOTHING, (0, 1), (0, 1, 2, 3))]
        wrong = []
        for thing in (None, True, False, 3, -1, "0", (0,), [0], 10 ** 30, NOTHING):
            wrong.append(((thing, 1, 2), BadColours, 0))
            wrong.append(((2, thing, None), BadColours, 1))
            wrong.append(((2, 0, thing), BadColours, 2))
        wrong += [((0, 0, 1), BadColours, 1), ((1, 0, 1), BadColours, 2)]
        try_refusals(self, renamed_table, self.rule, ("colours", (2, 0, 1), whole + wrong))

    def test_tables(self):
        for function in (closed_lots, least_table):
            try_refusals(self, function, self.rule)
        for function in (renamings_between, pair_table):
            try_refusals(self, function, self.rule, ("far_rule", TABLE, wrong_tables()))
        # A wrong second table is told ahead of what is too great.
        for function in (renamings_between, pair_table):
            for wrong, error, place in wrong_tables()[:3]:
                with self.assertRaises(error) as caught:
                    function(still(200), wrong)
                self.assertEqual(caught.exception.place, place)


if __name__ == "__main__":
    unittest.main()
