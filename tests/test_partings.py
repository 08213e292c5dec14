"""[26]: cordrules/partings.py."""

import unittest
from itertools import combinations, product

from cordrules.breaches import keeps
from cordrules.errors import BadColours, BadLots
from cordrules.filled import all_tables
from cordrules.likeness import customs
from cordrules.partings import all_partings, goes_well, least_parting, table_of_lots
from cordrules.rules import as_table, run_colours
from helpers import NOTHING, some_rows, try_great, try_refusals, wrong_tables

LINES = ((0, 1, 2, 3), (0, 1, 3, 2), (0, 1, 2, 3), (0, 1, 2, 3))
TABLE = ("table", LINES, LINES)
SMALL = all_tables(2, "any")[::5] + all_tables(3, "back")[::5] + (TABLE, as_table(("turns", 4, (1,))))


def still(many):
    return ("table", (tuple(range(many)),) * many, (tuple(range(many)),) * many)


def partings_of(many):
    """All partings, well or not."""
    found = set()
    for numbers in product(range(many), repeat=many):
        lots = [tuple(c for c in range(many) if numbers[c] == n) for n in range(many)]
        found.add(tuple(sorted(lot for lot in lots if lot)))
    return sorted(found)


def is_well(rule, lots):
    of = {colour: number for number, lot in enumerate(lots) for colour in lot}
    told = {}
    for lines in rule[1:]:
        for a, c in product(of, repeat=2):
            key = (lines is rule[1], of[a], of[c])
            if told.setdefault(key, of[lines[a][c]]) != of[lines[a][c]]:
                return False
    return True


def has_more(lots, other):
    """Whether each lot of other lies within one of lots."""
    return all(any(set(lot) <= set(great) for great in lots) for lot in other)


class TestPartings(unittest.TestCase):
    def test_all_partings(self):
        for rule in SMALL:
            partings = partings_of(len(rule[1]))
            well = tuple(lots for lots in partings if is_well(rule, lots))
            self.assertEqual(all_partings(rule), well)
            for lots in partings:
                self.assertIs(goes_well(rule, lots), lots in well)
        self.assertEqual(all_partings(still(1)), (((0,),),))
        self.assertEqual(len(all_partings(still(7))), 877)
        try_great(self, 7, all_partings, still(8))

    def test_least_parting(self):
        for rule in SMALL:
            well = all_partings(rule)
            pairs = list(product(range(len(rule[1])), repeat=2))
            for chosen in [()] + [(pair,) for pair in pairs] + list(combinations(pairs, 2))[::3]:
                least = least_parting(rule, chosen)
                self.assertIn(least, well)
                for one, other in chosen:
                    self.assertTrue(any(one in lot and other in lot for lot in least))
                for lots in well:
                    if all(any(one in lot and other in lot for lot in lots) for one, other in chosen):
                        self.assertTrue(has_more(lots, least))
        self.assertEqual(least_parting(TABLE, ()), ((0,), (1,), (2,), (3,)))
        self.assertEqual(least_parting(TABLE, ((0, 1),)), ((0, 1), (2, 3)))
        self.assertEqual(least_parting(still(200), ((5, 5), (199, 0)) * 300)[0], (0, 199))
        self.assertEqual(len(least_parting(as_table(("turns", 200, (1,))), ((0, 1),))), 1)

    def test_table_of_lots(self):
        for rule in SMALL:
            for lots in all_partings(rule):
                table = table_of_lots(rule, lots)
                of = {colour: number for number, lot in enumerate(lots) for colour in lot}
                for custom in customs():
                    if keeps(rule, custom):
                        self.assertTrue(keeps(table, custom))
                for row in some_rows(3, 2, 7):
                    for colours in list(product(range(len(rule[1])), repeat=3))[::7]:
                        told = tuple(of[c] for c in run_colours(3, row, rule, colours))
                        self.assertEqual(run_colours(3, row, table, tuple(of[c] for c in colours)), told)
        self.assertEqual(table_of_lots(TABLE, ((0, 1), (2, 3))), still(2))


class TestWrongOnes(unittest.TestCase):
    rule = ("rule", TABLE, wrong_tables())

    def test_lots(self):
        wrong = [(value, BadLots, None) for value in (None, True, 0, "", [], [(0, 1), (2, 3)], {}, NOTHING)]
        for thing in (None, True, 0, "", "01", (), [2], {}, NOTHING, (4,), (-1,), (True,), (2, 2), (3, 2), (None,),
                      ("2",), ((2,),), (0,), (0, 1), (0, 2), (1, 2), (2, 10 ** 30)):
            wrong.append((((0, 1), thing, (3,)), BadLots, 1))
            wrong.append((((0, 1), thing, None), BadLots, 1))
        wrong += [(((), (0, 1, 2, 3)), BadLots, 0), (((2, 3), (0, 1)), BadLots, 1), (((0, 3), (1, 2, 3)), BadLots, 1),
                  (((0,), (1,), (2, 1)), BadLots, 2), (((False, 1), (2, 3)), BadLots, 0)]
        wrong += [((), BadLots, "all"), (((0, 1),), BadLots, "all"), (((0,), (2, 3)), BadLots, "all")]
        try_refusals(self, goes_well, self.rule, ("lots", ((0, 1), (2, 3)), wrong))
        badly = [(((0, 2), (1,), (3,)), BadLots, "rule"), (((0, 1), (2,), (3,)), BadLots, "rule")]
        self.assertFalse(goes_well(TABLE, ((0, 1), (2,), (3,))))
        try_refusals(self, table_of_lots, self.rule, ("lots", ((0, 1), (2, 3)), wrong + badly))

    def test_pairs(self):
        wrong = [(value, BadColours, None) for value in (None, True, 0, "", [], [(0, 1)], {}, NOTHING)]
        for thing in (None, True, 0, "", "01", (), (0,), (0, 1, 2), [0, 1], (0, 4), (-1, 0), (0, True), (False, 0),
                      ("0", 1), (0, None), (0, (1,)), (0, 10 ** 30), NOTHING):
            wrong.append(((thing,), BadColours, 0))
            wrong.append((((0, 1), (2, 2), thing, None), BadColours, 2))
        try_refusals(self, least_parting, self.rule, ("pairs", ((0, 1),), wrong))
        try_refusals(self, all_partings, self.rule)


if __name__ == "__main__":
    unittest.main()
