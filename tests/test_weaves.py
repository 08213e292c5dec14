"""[19], [22]: cordrules/weaves.py."""

import unittest
from itertools import combinations, permutations

from cordrules.errors import BadNumber
from cordrules.likeness import are_alike
from cordrules.rows import order_of, order_on_way, turned_over
from cordrules.weaves import crossed, flattened, heights_of, is_heights, met, turned_at
from helpers import (
    NOTHING, VERY, rows_to, some_rows, try_refusals, wrong_cord, wrong_cords, wrong_rows)

ROW = (("left", 0), ("right", 1), ("left", 1))


def all_small():
    found = [(2, row) for row in rows_to(2, 5)] + [(3, row) for row in rows_to(3, 4)]
    found += [(4, row) for row in rows_to(4, 3)] + [(5, row) for row in rows_to(5, 2)]
    return found + [(cords, row) for cords in (2, 3, 4, 5) for row in some_rows(cords, 4, 60)]


def all_heights(cords, row):
    """All heights, from the words of the document."""
    pairs = met(cords, row)
    return [heights for heights in permutations(range(cords))
            if all(heights.index(over) < heights.index(under) for over, under, _ in pairs)]


class TestMeetings(unittest.TestCase):
    def test_met(self):
        self.assertEqual(met(2, ()), ())
        self.assertEqual(met(3, ROW), ((0, 1, "left"), (2, 0, "right"), (2, 0, "left")))
        for cords, row in all_small():
            orders = order_on_way(cords, row)
            expected = []
            for order, (side, place) in zip(orders, row):
                pair = (order[place], order[place + 1])
                expected.append((pair if side == "left" else pair[::-1]) + (side,))
            self.assertEqual(met(cords, row), tuple(expected))

    def test_crossed(self):
        self.assertEqual(crossed(3, ROW, 0, 2), 2)
        self.assertEqual(crossed(3, ROW, 2, 0), 2)
        self.assertEqual(crossed(3, ROW, 0, 1), 1)
        self.assertEqual(crossed(3, ROW, 1, 2), 0)
        for cords, row in all_small():
            total = sum(crossed(cords, row, one, other) for one, other in combinations(range(cords), 2))
            self.assertEqual(total, len(row))


class TestHeights(unittest.TestCase):
    def test_small_ones(self):
        self.assertEqual(heights_of(2, ()), (0, 1))
        self.assertEqual(heights_of(2, (("right", 0),)), (1, 0))
        self.assertEqual(heights_of(2, (("right", 0), ("left", 0))), (1, 0))
        self.assertIsNone(heights_of(2, (("left", 0), ("left", 0))))
        self.assertEqual(heights_of(5, ()), (0, 1, 2, 3, 4))
        self.assertTrue(is_heights(2, (), (1, 0)))
        self.assertFalse(is_heights(2, (("left", 0),), (1, 0)))
        self.assertEqual(flattened(2, (("left", 0), ("left", 0))), ((1,), (0, 1)))
        self.assertEqual(flattened(5, ()), ((), (0, 1, 2, 3, 4)))

    def test_first_heights(self):
        for cords, row in all_small():
            found = all_heights(cords, row)
            self.assertEqual(heights_of(cords, row), found[0] if found else None)
            for heights in permutations(range(cords)):
                self.assertEqual(is_heights(cords, row, heights), heights in found)
                self.assertEqual(is_heights(cords, turned_over(cords, row), heights[::-1]), heights in found)

    def test_stacked_rows_of_one_order(self):
        for cords, most in ((2, 3), (3, 3)):
            stacked = [row for row in rows_to(cords, most) if heights_of(cords, row)]
            for row, other in combinations(stacked, 2):
                common = [h for h in all_heights(cords, row) if h in all_heights(cords, other)]
                if common and order_of(cords, row) == order_of(cords, other):
                    self.assertTrue(are_alike(cords, row, other, "through"))
        row, other = (("left", 0), ("left", 1), ("left", 0)), (("left", 1), ("left", 0), ("left", 1))
        self.assertTrue(are_alike(3, row, other, "through"))
        self.assertFalse(are_alike(3, row, other, "back"))

    def test_turning_just_those_against_heights(self):
        for cords, row in all_small():
            pairs = met(cords, row)
            for heights in permutations(range(cords)):
                numbers = tuple(number for number, (over, under, _) in enumerate(pairs)
                                if heights.index(over) > heights.index(under))
                turned = turned_at(cords, row, numbers)
                self.assertTrue(is_heights(cords, turned, heights))
                self.assertEqual(order_of(cords, turned), order_of(cords, row))


class TestFlattened(unittest.TestCase):
    def test_against_all_choices(self):
        for cords, row in [(2, row) for row in rows_to(2, 4)] + [(3, row) for row in rows_to(3, 3)] + [
                (4, row) for row in some_rows(4, 10, 6)] + [(5, row) for row in some_rows(5, 5, 7)]:
            found = []
            for many in range(len(row) + 1):
                for numbers in combinations(range(len(row)), many):
                    heights = heights_of(cords, turned_at(cords, row, numbers))
                    if heights is not None:
                        found.append((heights, numbers))
                if found:
                    break
            heights, numbers = min(found)
            self.assertEqual(flattened(cords, row), (numbers, heights))

    def test_long_rows(self):
        for cords, row in all_small():
            numbers, heights = flattened(cords, row)
            self.assertEqual(heights_of(cords, turned_at(cords, row, numbers)), heights)
            self.assertEqual(heights_of(cords, row) is not None, numbers == ())

    def test_turned_at(self):
        self.assertEqual(turned_at(3, ROW, ()), ROW)
        self.assertEqual(turned_at(3, ROW, (1,)), (("left", 0), ("left", 1), ("left", 1)))
        self.assertEqual(turned_at(3, ROW, (0, 1, 2)), turned_over(3, ROW))
        self.assertEqual(turned_at(2, (("left", 0),) * 60, (59,)), (("left", 0),) * 59 + (("right", 0),))


class TestWrongOnes(unittest.TestCase):
    def test_weaves(self):
        both = (("cords", 3, wrong_cords()), ("row", ROW, wrong_rows(3)))
        for function in (met, heights_of, flattened):
            try_refusals(self, function, *both)
        try_refusals(
            self, crossed, *both, ("cord", 0, wrong_cord(3)),
            ("far_cord", 2, [(0, BadNumber, VERY)] + wrong_cord(3)))
        heights = [(value, BadNumber, VERY) for value in (
            None, True, 0, "", "012", [], [0, 1, 2], {}, NOTHING, (), (0, 1), (0, 1, 2, 3), (0, 1, 2, 0),
            (0, 1, 1), (0, 1, 3),
            (0, 1, -1), (False, True, 2), (0, True, 2), (0, 1, None), (0, 1, "2"), (0, 1, (2,)), (0, 1, [2]))]
        try_refusals(self, is_heights, *both, ("heights", (0, 2, 1), heights))
        numbers = [(value, BadNumber, VERY) for value in (
            None, True, 0, "", [], [0], {}, NOTHING, (3,), (-1,), (0, 0), (1, 0), (0, 1, 3), (True,), (False, 1),
            (None,), ("0",), ((0,),), ([0],), (10 ** 30,))]
        try_refusals(self, turned_at, *both, ("numbers", (0, 2), numbers))
        with self.assertRaises(BadNumber):
            turned_at(2, (), (0,))


if __name__ == "__main__":
    unittest.main()
