"""[45]: cordrules/changes.py."""

import unittest
from itertools import combinations, product

from cordrules.changes import fewest_changes, ways_of_changes
from cordrules.likeness import are_alike, pair_numbers
from cordrules.rows import order_of, turned_over
from cordrules.weaves import turned_at
from helpers import (
    CUSTOMS, FAR_LONG, LONG, rows_to, some_rows, try_great, try_refusals, wrong_cords, wrong_customs, wrong_rows)

a, b, ra, rb = ("left", 0), ("left", 1), ("right", 0), ("right", 1)
BY_PAIRS = ("began", "twice", "never")


def all_changes(cords, row, other, custom):
    """The tuples of so many numbers as the fewest that make the row alike to the other one, going through all."""
    for many in range(len(row) + 1):
        found = [numbers for numbers in combinations(range(len(row)), many)
                 if are_alike(cords, turned_at(cords, row, numbers), other, custom)]
        if found:
            return found
    return []


def some_pairs(cords, custom):
    """Rows and other ones, many of them with the other side at some crossings."""
    rows = rows_to(cords, 3) + some_rows(cords, 10, 7 if custom in BY_PAIRS else 5)
    for row in rows:
        yield row, turned_over(cords, row)
        yield row, turned_at(cords, row, tuple(range(0, len(row), 2)))
    for row, other in list(product(rows, rows))[::53]:
        yield row, other
    for row, other in product(some_rows(cords, 3, 6, 4), some_rows(cords, 3, 4, 5)):
        yield row, other
        yield row, row[:-2]
        yield row + row[:1] + row[:1], row


class TestChanges(unittest.TestCase):
    def test_beside_going_through_all(self):
        for custom in CUSTOMS:
            for cords in (2, 3, 4):
                pairs = list(some_pairs(cords, custom))
                for row, other in pairs[::1 if custom in BY_PAIRS and cords < 4 else 3]:
                    found = all_changes(cords, row, other, custom)
                    self.assertEqual(fewest_changes(cords, row, other, custom), found[0] if found else None)
                    if custom in BY_PAIRS:
                        self.assertEqual(ways_of_changes(cords, row, other, custom), len(found))

    def test_named_ones(self):
        self.assertEqual(fewest_changes(2, (a, a, a), (a,), "began"), (0,))
        self.assertEqual(ways_of_changes(2, (a, a, a), (a,), "began"), 3)
        self.assertEqual(fewest_changes(2, (a, ra, a), (ra,) * 3, "began"), (0, 2))
        self.assertEqual(ways_of_changes(2, (a, ra, a), (ra,) * 3, "began"), 1)
        self.assertIsNone(fewest_changes(2, (a, a), (a,), "began"))
        self.assertIsNone(fewest_changes(2, (a,), (a, a, a), "began"))
        self.assertEqual(fewest_changes(2, (a,), (a, a, a), "twice"), (0,))
        self.assertIsNone(fewest_changes(2, (), (a, a), "twice"))
        self.assertEqual(ways_of_changes(2, (), (a, a), "twice"), 0)
        self.assertEqual(fewest_changes(2, (a, ra), (ra, a), "never"), ())
        self.assertEqual(ways_of_changes(2, (a, ra), (ra, a), "never"), 1)
        self.assertEqual(ways_of_changes(2, (a, ra), (ra,), "never"), 0)
        self.assertIsNone(fewest_changes(2, (a, ra), (ra,), "never"))
        self.assertEqual(fewest_changes(3, (a, b, a), (b, a, b), "through"), ())
        self.assertEqual(fewest_changes(3, (a, rb, a), (b, a, b), "through"), (1,))
        self.assertEqual(fewest_changes(2, (ra, a), (a, ra), "any"), (0, 1))
        self.assertEqual(fewest_changes(2, (ra, a), (a, ra), "back"), ())
        self.assertIsNone(fewest_changes(2, (ra, a), (), "any"))

    def test_long_by_pairs(self):
        for cords in (3, 5):
            for row in some_rows(cords, 4, 60):
                for other in (turned_over(cords, row), turned_at(cords, row, (0, 1, 5, 30))):
                    for custom in BY_PAIRS:
                        numbers = fewest_changes(cords, row, other, custom)
                        changed = turned_at(cords, row, numbers)
                        self.assertTrue(are_alike(cords, changed, other, custom))
                        if custom == "began":
                            apart = sum(abs(one[2] - far[2]) // 2 for one, far in zip(
                                pair_numbers(cords, row), pair_numbers(cords, other)))
                            self.assertEqual(len(numbers), apart)
                        self.assertGreater(ways_of_changes(cords, row, other, custom), 0)
        self.assertEqual(fewest_changes(2, (a,) * 60, (ra,) * 60, "began"), tuple(range(60)))
        self.assertEqual(ways_of_changes(2, (a,) * 60, (), "began"), 118264581564861424)
        self.assertEqual(fewest_changes(2, (a,) * 60, (), "began"), tuple(range(30)))
        self.assertEqual(ways_of_changes(2, (a,) * 60, (a,) * 58, "twice"), 60)

    def test_twelve_and_thirteen(self):
        row = (a, ra) * 6
        for custom in ("any", "back"):
            expected = tuple(range(12)) if custom == "any" else ()
            self.assertEqual(fewest_changes(2, row, turned_over(2, row), custom), expected)
            for many in (13, 60):
                try_great(self, 12, fewest_changes, 2, (a,) * many, (a,) * many, custom)
                try_great(self, 12, fewest_changes, 2, (a,) * many, (), custom)
        self.assertEqual(fewest_changes(2, (a,) * 12, (ra,) * 12, "back"), tuple(range(12)))
        self.assertEqual(fewest_changes(2, (a,) * 12, (ra,) * 12, "through"), tuple(range(12)))
        self.assertEqual(fewest_changes(2, (a,) * 12, (), "through"), tuple(range(6)))
        # The other row may have more crossings.
        self.assertIsNone(fewest_changes(2, (a,) * 12, (a,) * 60, "through"))
        self.assertEqual(fewest_changes(2, (), (a, ra) * 30, "back"), ())
        try_great(self, 12, fewest_changes, 2, (a,) * 13, (a,), "through")
        try_great(self, 12, fewest_changes, 3, (a,) * 13, LONG, "through")
        self.assertEqual(fewest_changes(2, (a,) * 13, (a,), "began"), tuple(range(6)))

    def test_long_rows(self):
        # The orders are looked at ahead of the words.
        self.assertIsNone(fewest_changes(3, (a,), LONG, "through"))
        for row in ((), (a, ra), (a, b) * 6):
            self.assertEqual(order_of(3, row), order_of(3, LONG))
            try_great(self, 2000, fewest_changes, 3, row, LONG, "through")
            try_great(self, 2000, fewest_changes, 3, row, FAR_LONG, "through")
            fewest_changes(3, row, LONG, "back")
        # No row of twelve crossings that is tried here is long.
        row = (b, ra) * 6
        self.assertEqual(fewest_changes(3, row, turned_over(3, row), "through"), tuple(range(12)))

    def test_wrong_ones(self):
        specs = (("cords", 3, wrong_cords()), ("row", (a, b, rb), wrong_rows(3)), ("other", (ra,), wrong_rows(3)))
        try_refusals(self, fewest_changes, *specs, ("custom", "through", wrong_customs()))
        try_refusals(self, fewest_changes, *specs, ("custom", "began", wrong_customs()))
        try_refusals(self, ways_of_changes, *specs, ("custom", "twice", wrong_customs(BY_PAIRS)))


if __name__ == "__main__":
    unittest.main()
