"""[26]: cordrules/filled.py."""

import unittest
from itertools import permutations, product

from cordrules.breaches import keeps
from cordrules.errors import BadSeen
from cordrules.filled import all_tables, matched_table, table_count
from cordrules.likeness import customs
from cordrules.rules import off_colour, on_colour
from helpers import NOTHING, try_great, try_refusals, wrong_customs, wrong_numbers

COUNTS = {"any": (1, 256), "back": (1, 4, 216), "through": (1, 2, 13), "began": (1, 2, 12), "twice": (1, 2, 10),
          "never": (1, 1, 1)}


class TestAllTables(unittest.TestCase):
    def test_counts(self):
        for custom, counts in COUNTS.items():
            for many, count in enumerate(counts, 1):
                self.assertEqual(table_count(many, custom), count)
                tables = all_tables(many, custom)
                self.assertEqual(len(tables), count)
                self.assertEqual(tables, tuple(sorted(set(tables))))
                for table in tables[::9]:
                    self.assertEqual(len(table[1]), many)
                    self.assertTrue(keeps(table, custom))

    def test_all_of_two_colours(self):
        squares = list(product(product(range(2), repeat=2), repeat=2))
        every = [("table", on, off) for on in squares for off in squares]
        for custom in customs():
            self.assertEqual(all_tables(2, custom), tuple(table for table in every if keeps(table, custom)))
        for table in all_tables(2, "through"):
            self.assertTrue(keeps(table, "twice"))

    def test_all_of_three_colours(self):
        every = all_tables(3, "back")
        self.assertEqual(
            [table[1] for table in every], sorted(product(list(permutations(range(3))), repeat=3)))
        for custom in customs()[2:]:
            self.assertEqual(all_tables(3, custom), tuple(table for table in every if keeps(table, custom)))

    def test_too_great(self):
        try_great(self, 2, all_tables, 3, "any")
        try_great(self, 2, table_count, 3, "any")


class TestMatched(unittest.TestCase):
    def test_by_any(self):
        self.assertEqual(matched_table(1, "any", ()), ("table", ((0,),), ((0,),)))
        self.assertEqual(
            matched_table(2, "any", (("left", 0, 1, 1), ("right", 1, 0, 1), ("left", 0, 1, 1))),
            ("table", ((0, 1), (0, 0)), ((0, 0), (1, 0))))
        self.assertIsNone(matched_table(2, "any", (("left", 0, 1, 1), ("left", 0, 1, 0))))
        self.assertIsNotNone(matched_table(2, "any", (("left", 0, 1, 1), ("right", 0, 1, 0))))
        self.assertIsNotNone(matched_table(2, "any", (("left", 0, 1, 1), ("left", 0, 0, 1))))

    def test_by_back(self):
        still = ("table", ((0, 1, 2),) * 3, ((0, 1, 2),) * 3)
        self.assertEqual(matched_table(3, "back", ()), still)
        self.assertEqual(
            matched_table(3, "back", (("left", 0, 0, 2), ("right", 1, 1, 0))),
            ("table", ((2, 0, 1), (1, 0, 2), (0, 1, 2)), ((1, 2, 0), (1, 0, 2), (0, 1, 2))))
        self.assertIsNone(matched_table(2, "back", (("left", 0, 1, 1), ("left", 0, 1, 0))))
        self.assertIsNone(matched_table(2, "back", (("left", 0, 1, 1), ("left", 0, 0, 1))))
        self.assertIsNone(matched_table(2, "back", (("left", 0, 1, 1), ("right", 0, 1, 0))))
        self.assertIsNotNone(matched_table(2, "back", (("left", 0, 1, 0), ("right", 0, 0, 1))))

    def test_against_all_tables(self):
        deeds = [(side,) + colours for side in ("left", "right") for colours in product(range(2), repeat=3)]
        every = all_tables(2, "any")
        for told in [()] + [(deed,) for deed in deeds] + list(product(deeds, repeat=2)) + list(
                product(deeds, repeat=3))[::11]:
            for custom in ("any", "back"):
                table = matched_table(2, custom, told)
                fitting = [one for one in every if keeps(one, custom) and does_show(one, told)]
                self.assertEqual(table is None, not fitting)
                if table is not None:
                    self.assertIn(table, fitting)

    def test_what_is_not_told(self):
        deeds = (("left", 3, 0, 2), ("left", 3, 4, 1), ("right", 3, 3, 2))
        table = matched_table(5, "back", deeds)
        self.assertEqual(table[1][3], (2, 0, 3, 4, 1))
        self.assertEqual(table[2][3], (1, 4, 0, 2, 3))
        for line in (0, 1, 2, 4):
            self.assertEqual(table[1][line], (0, 1, 2, 3, 4))
        table = matched_table(5, "any", deeds)
        self.assertEqual(table[1][3], (2, 0, 0, 0, 1))
        self.assertEqual(table[2][3], (0, 0, 0, 2, 0))

    def test_great(self):
        table = matched_table(200, "back", tuple(("left", 7, c, (c + 1) % 200) for c in range(200)) * 2)
        self.assertEqual(table[1][7], tuple(range(1, 200)) + (0,))
        self.assertTrue(keeps(table, "back"))
        self.assertEqual(len(matched_table(200, "any", ())[1]), 200)


def does_show(table, deeds):
    """Whether a table has what the deeds tell."""
    for side, over, under, result in deeds:
        if (on_colour if side == "left" else off_colour)(table, over, under) != result:
            return False
    return True


class TestWrongOnes(unittest.TestCase):
    def test_all_tables(self):
        for function in (all_tables, table_count):
            try_refusals(self, function, ("many", 2, wrong_numbers(1, 3)), ("custom", "twice", wrong_customs()))

    def test_matched_table(self):
        wrong = [(value, BadSeen, None) for value in (None, True, 0, "", [], [("left", 0, 1, 1)], {}, NOTHING)]
        for thing in (None, True, 0, "", "left", (), ("left", 0, 1), ("left", 0, 1, 1, 1), ["left", 0, 1, 1],
                      ("Left", 0, 1, 1), (None, 0, 1, 1), (0, 0, 1, 1), (["left"], 0, 1, 1), ("on", 0, 1, 1),
                      ("left", 3, 1, 1), ("left", 0, 3, 1), ("left", 0, 1, 3), ("left", -1, 1, 1), ("left", 0, True, 1),
                      ("left", 0, 1, False), ("left", None, 1, 1), ("left", 0, "1", 1), ("left", 0, 1, (1,)), NOTHING):
            wrong.append(((thing,), BadSeen, 0))
            wrong.append(((("right", 2, 1, 0), thing, None), BadSeen, 1))
            # What is no deed is told ahead of deeds against each other.
            wrong.append(((("left", 0, 0, 0), ("left", 0, 0, 1), thing), BadSeen, 2))
        for custom in ("any", "back"):
            try_refusals(
                self, matched_table, ("many", 3, wrong_numbers(1, 200)),
                ("custom", custom, wrong_customs(("any", "back"))), ("deeds", (("left", 0, 1, 2),), wrong))


if __name__ == "__main__":
    unittest.main()
