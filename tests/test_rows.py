"""[10], [11], [19], [20]: cordrules/rows.py."""

import unittest

from cordrules.errors import BadCords, BadNumber
from cordrules.likeness import are_alike, forms_of
from cordrules.rows import (
    back_row, beside, cuts_of, mirrored, moved, order_of, order_on_way, pieces_of, turned_over, way_of)
from cordrules.weaves import crossed
from helpers import (
    NOTHING, VERY, rows_of, rows_to, some_rows, try_refusals, worked, wrong_cord, wrong_cords, wrong_numbers,
    wrong_rows)

ROW = (("left", 0), ("right", 1), ("left", 1))
LONG = (("left", 0), ("right", 3)) * 30


def all_small():
    """Pairs of cords and rows."""
    found = [(2, row) for row in rows_to(2, 5)] + [(3, row) for row in rows_to(3, 4)]
    found += [(4, row) for row in rows_to(4, 3)] + [(5, row) for row in rows_to(5, 2)]
    return found + [(cords, row) for cords in (2, 3, 4, 5) for row in some_rows(cords, 6, 60)]


class TestOrders(unittest.TestCase):
    def test_orders_of_small_rows(self):
        self.assertEqual(order_of(2, ()), (0, 1))
        self.assertEqual(order_of(5, ()), (0, 1, 2, 3, 4))
        self.assertEqual(order_of(3, (("left", 0),)), (1, 0, 2))
        self.assertEqual(order_of(3, (("right", 0), ("left", 1))), (1, 2, 0))
        self.assertEqual(order_on_way(3, ROW), ((0, 1, 2), (1, 0, 2), (1, 2, 0), (1, 0, 2)))
        self.assertEqual(order_on_way(2, ()), ((0, 1),))
        self.assertEqual(way_of(3, ROW, 0), (0, 1, 2, 1))
        self.assertEqual(way_of(3, ROW, 1), (1, 0, 0, 0))
        self.assertEqual(way_of(3, ROW, 2), (2, 2, 1, 2))
        self.assertEqual(way_of(2, (), 1), (1,))

    def test_orders_as_cords_are_worked(self):
        for cords, row in all_small():
            order = worked(range(cords), row, lambda side, over, under: under)
            self.assertEqual(order_of(cords, row), order)
            way = order_on_way(cords, row)
            self.assertEqual(len(way), len(row) + 1)
            self.assertEqual(way, tuple(order_of(cords, row[:many]) for many in range(len(row) + 1)))
            for cord in range(cords):
                self.assertEqual(way_of(cords, row, cord), tuple(step.index(cord) for step in way))

    def test_sixty_crossings(self):
        self.assertEqual(order_of(5, LONG), (0, 1, 2, 3, 4))
        self.assertEqual(len(way_of(5, LONG, 0)), 61)
        self.assertEqual(len(order_on_way(5, LONG)), 61)


class TestTurned(unittest.TestCase):
    def test_small_ones(self):
        self.assertEqual(back_row(3, ROW), (("right", 1), ("left", 1), ("right", 0)))
        self.assertEqual(mirrored(3, ROW), (("right", 1), ("left", 0), ("right", 0)))
        self.assertEqual(mirrored(5, (("left", 0), ("right", 3))), (("right", 3), ("left", 0)))
        self.assertEqual(turned_over(3, ROW), (("right", 0), ("left", 1), ("right", 1)))
        for function in (back_row, mirrored, turned_over):
            self.assertEqual(function(2, ()), ())

    def test_twice_and_in_any_order(self):
        functions = (back_row, mirrored, turned_over)
        for cords, row in all_small():
            for one in functions:
                self.assertEqual(one(cords, one(cords, row)), row)
                for other in functions:
                    self.assertEqual(one(cords, other(cords, row)), other(cords, one(cords, row)))

    def test_orders_of_the_turned_rows(self):
        for cords, row in all_small():
            order = order_of(cords, row)
            back = order_of(cords, back_row(cords, row))
            far = order_of(cords, mirrored(cords, row))
            for place in range(cords):
                self.assertEqual(back[place], order.index(place))
                self.assertEqual(far[cords - 1 - place], cords - 1 - order[place])
            self.assertEqual(order_of(cords, turned_over(cords, row)), order)

    def test_row_and_back_row(self):
        for cords, row in all_small():
            if len(row) <= 30:
                self.assertTrue(are_alike(cords, row + back_row(cords, row), (), "back"))

    def test_odd_crossings_change_the_order(self):
        for cords, row in all_small():
            order = order_of(cords, row)
            for one in range(cords):
                for other in range(one + 1, cords):
                    changed = order.index(one) > order.index(other)
                    self.assertEqual(crossed(cords, row, one, other) % 2 == 1, changed)

    def test_mirrored_forms(self):
        for cords, row in all_small():
            if len(row) > 20:
                continue
            here, far = forms_of(cords, row, "through"), forms_of(cords, mirrored(cords, row), "through")
            for place in range(cords):
                word, cord = here[place]
                turned = tuple((cords - 1 - letter, -sign) for letter, sign in word)
                self.assertEqual(far[cords - 1 - place], (turned, cords - 1 - cord))
            here, far = forms_of(cords, row, "began"), forms_of(cords, mirrored(cords, row), "began")
            for place in range(cords):
                counts, cord = here[place]
                self.assertEqual(
                    far[cords - 1 - place], (tuple(-count for count in counts[::-1]), cords - 1 - cord))

    def test_turned_over_counts(self):
        for cords, row in all_small():
            here = {cord: counts for counts, cord in forms_of(cords, row, "began")}
            far = {cord: counts for counts, cord in forms_of(cords, turned_over(cords, row), "began")}
            for one in range(cords):
                for other in range(cords):
                    self.assertEqual(far[other][one], -here[one][other])

    def test_mirrored_terms(self):
        def exchanged(cords, term):
            if term[0] == "cord":
                return ("cord", cords - 1 - term[1])
            word = "off" if term[0] == "on" else "on"
            return (word, exchanged(cords, term[1]), exchanged(cords, term[2]))

        for custom in ("any", "back"):
            for cords, row in all_small():
                if len(row) <= 6:
                    here = forms_of(cords, row, custom)
                    far = forms_of(cords, mirrored(cords, row), custom)
                    self.assertEqual(far, tuple(exchanged(cords, form) for form in here[::-1]))


class TestBeside(unittest.TestCase):
    def test_beside(self):
        self.assertEqual(beside(2, (("left", 0),), 3, ROW), (("left", 0), ("left", 2), ("right", 3), ("left", 3)))
        self.assertEqual(beside(3, ROW, 2, ()), ROW)
        self.assertEqual(len(beside(2, (("left", 0),) * 60, 2, (("right", 0),) * 60)), 120)
        for row in rows_to(2, 2):
            for far_row in rows_to(3, 2):
                order = order_of(5, beside(2, row, 3, far_row))
                self.assertEqual(order[:2], order_of(2, row))
                self.assertEqual(order[2:], tuple(cord + 2 for cord in order_of(3, far_row)))

    def test_moved(self):
        self.assertEqual(moved(3, ROW, 5, 2), (("left", 2), ("right", 3), ("left", 3)))
        self.assertEqual(moved(3, ROW, 3, 0), ROW)
        self.assertEqual(moved(2, (), 5, 3), ())


class TestPieces(unittest.TestCase):
    def test_small_ones(self):
        self.assertEqual(cuts_of(2, ()), (0,))
        self.assertEqual(cuts_of(5, ()), (0, 1, 2, 3))
        self.assertEqual(cuts_of(5, (("left", 1), ("right", 3))), (0, 2))
        self.assertEqual(pieces_of(2, ()), ((0, 1, ()), (1, 1, ())))
        self.assertEqual(
            pieces_of(5, (("left", 1), ("right", 3), ("left", 1))),
            ((0, 1, ()), (1, 2, (("left", 0), ("left", 0))), (3, 2, (("right", 0),))))
        self.assertEqual(pieces_of(3, ROW), ((0, 3, ROW),))

    def test_pieces_lie_between_the_cuts(self):
        for cords, row in all_small():
            cuts = cuts_of(cords, row)
            self.assertEqual(cuts, tuple(p for p in range(cords - 1) if p not in [place for _, place in row]))
            pieces = pieces_of(cords, row)
            self.assertEqual([first for first, _, _ in pieces], [0] + [cut + 1 for cut in cuts])
            self.assertEqual(sum(many for _, many, _ in pieces), cords)
            for first, many, piece in pieces:
                self.assertEqual(
                    piece, tuple((side, place - first) for side, place in row if first <= place < first + many - 1))
                if many > 1:
                    self.assertEqual(cuts_of(many, piece), ())


class TestWrongOnes(unittest.TestCase):
    def test_row_functions(self):
        for function in (order_of, order_on_way, back_row, mirrored, turned_over, cuts_of, pieces_of):
            try_refusals(self, function, ("cords", 3, wrong_cords()), ("row", ROW, wrong_rows(3)))

    def test_edges_of_rows(self):
        for row in rows_of(2, 1):
            try_refusals(self, order_of, ("cords", 2, wrong_cords()), ("row", row, wrong_rows(2)))
        try_refusals(self, order_of, ("cords", 5, wrong_cords()), ("row", LONG, wrong_rows(5)))

    def test_way_of(self):
        try_refusals(
            self, way_of, ("cords", 3, wrong_cords()), ("row", ROW, wrong_rows(3)), ("cord", 2, wrong_cord(3)))

    def test_beside_and_moved(self):
        far = [(value, BadCords, VERY) for value in (4, 5)] + wrong_cords()
        try_refusals(
            self, beside, ("cords", 2, wrong_cords()), ("row", (("left", 0),), wrong_rows(2)),
            ("far_cords", 3, far), ("far_row", ROW, wrong_rows(3)))
        for cords in (4, 5):
            for far_cords in (1, 2, 5, None, True):
                with self.assertRaises(BadCords) as caught:
                    beside(cords, (), far_cords, None)
                self.assertIs(caught.exception.value, far_cords)
        less = [(2, BadCords, VERY)] + wrong_cords()
        numbers = wrong_numbers(0, 2)
        try_refusals(
            self, moved, ("cords", 3, wrong_cords()), ("row", ROW, wrong_rows(3)),
            ("far_cords", 5, less), ("by", 1, numbers))
        with self.assertRaises(BadNumber) as caught:
            moved(3, ROW, 3, 1)
        self.assertEqual(caught.exception.value, 1)
        with self.assertRaises(BadNumber) as caught:
            moved(3, ROW, 3, NOTHING)
        self.assertIs(caught.exception.value, NOTHING)


if __name__ == "__main__":
    unittest.main()
