"""[21]: cordrules/layers.py."""

import unittest

from cordrules.errors import BadNumber
from cordrules.layers import (
    exchanged, far_chain, far_count, far_greatest, far_least, far_rows, far_steps, is_far_one, layers_of, loose_count)
from cordrules.likeness import are_alike
from helpers import (
    NOTHING, VERY, rows_of, rows_to, some_rows, try_great, try_refusals, wrong_cords, wrong_rows)

ROW = (("left", 0), ("right", 2), ("left", 1))


def places(row):
    return tuple(place for _, place in row)


def are_far(one, other):
    return abs(one[1] - other[1]) >= 2


def steps_to_all(row):
    """The fewest exchanges to each far row, by trying all."""
    steps = {row: 0}
    waiting = [row]
    for now in waiting:
        for at in range(len(now) - 1):
            if are_far(now[at], now[at + 1]):
                further = now[:at] + (now[at + 1], now[at]) + now[at + 2:]
                if further not in steps:
                    steps[further] = steps[now] + 1
                    waiting.append(further)
    return steps


def small_rows():
    found = [(2, row) for row in rows_to(2, 3)] + [(3, row) for row in rows_to(3, 3)]
    found += [(4, row) for row in rows_to(4, 3)] + [(5, row) for row in rows_to(5, 2)]
    found += [(4, row) for row in some_rows(4, 20, 7)] + [(5, row) for row in some_rows(5, 30, 7)]
    return found + [(5, (("left", 0), ("right", 2), ("left", 3), ("left", 0), ("right", 3), ("left", 2)))]


class TestFarRows(unittest.TestCase):
    def test_examples(self):
        self.assertEqual(layers_of(2, ()), ())
        self.assertEqual(layers_of(4, ROW), ((("left", 0), ("right", 2)), (("left", 1),)))
        self.assertEqual(layers_of(4, ROW[1::-1]), ((("left", 0), ("right", 2)),))
        self.assertEqual(layers_of(2, (("left", 0),) * 2), ((("left", 0),), (("left", 0),)))
        self.assertEqual(far_rows(2, ()), ((),))
        self.assertEqual(far_rows(4, ROW), (ROW, (("right", 2), ("left", 0), ("left", 1))))
        self.assertEqual(far_count(2, ()), 1)
        self.assertEqual(far_steps(2, (), ()), 0)
        self.assertEqual(far_chain(2, (), ()), ())
        row = (("right", 0), ("left", 2), ("left", 0))
        self.assertEqual(far_least(4, row), (("right", 0), ("left", 0), ("left", 2)))
        self.assertEqual(far_greatest(4, row), (("left", 2), ("right", 0), ("left", 0)))

    def test_against_all_exchanges(self):
        for cords, row in small_rows():
            steps = steps_to_all(row)
            ordered = tuple(sorted(steps, key=places))
            self.assertEqual(far_rows(cords, row), ordered)
            self.assertEqual(far_count(cords, row), len(ordered))
            self.assertEqual(far_least(cords, row), ordered[0])
            self.assertEqual(far_greatest(cords, row), ordered[-1])
            for other in ordered:
                self.assertEqual(far_steps(cords, row, other), steps[other])
                self.assertEqual(layers_of(cords, other), layers_of(cords, row))
                chain = far_chain(cords, row, other)
                self.assertEqual(len(chain), steps[other])
                self.assertEqual(exchanged(cords, row, chain), other)
                for custom in ("any", "through", "never"):
                    self.assertTrue(are_alike(cords, row, other, custom))

    def test_loose_pairs(self):
        for cords, row in small_rows():
            first = [[], []]
            numbered = tuple((crossing, number) for number, crossing in enumerate(row))
            steps = {numbered: 0}
            waiting = [numbered]
            for now in waiting:
                for at in range(len(now) - 1):
                    if are_far(now[at][0], now[at + 1][0]):
                        further = now[:at] + (now[at + 1], now[at]) + now[at + 2:]
                        if further not in steps:
                            steps[further] = steps[now] + 1
                            waiting.append(further)
            loose = 0
            for one in range(len(row)):
                for other in range(one):
                    first = {now.index((row[one], one)) < now.index((row[other], other)) for now in steps}
                    loose += len(first) == 2
            self.assertEqual(loose_count(cords, row), loose)
            # The least and the greatest one are farthest from one another.
            self.assertEqual(far_steps(cords, far_least(cords, row), far_greatest(cords, row)), loose)

    def test_all_pairs_of_rows(self):
        for cords, most in ((4, 3), (5, 2)):
            for many in range(most + 1):
                rows = rows_of(cords, many)
                for row in rows[::3]:
                    steps = steps_to_all(row)
                    for other in rows:
                        self.assertEqual(is_far_one(cords, row, other), other in steps)
                        self.assertEqual(far_steps(cords, row, other), steps.get(other))
                        if other not in steps:
                            self.assertIsNone(far_chain(cords, row, other))

    def test_one_but_for_far_ones_by_places(self):
        def by_near_places(cords, row):
            return [[c for c in row if c[1] in (p, p + 1)] for p in range(cords - 1)]

        for row in rows_to(4, 3):
            for other in rows_of(4, len(row))[::5]:
                self.assertEqual(is_far_one(4, row, other), by_near_places(4, row) == by_near_places(4, other))

    def test_alike_but_not_far_ones(self):
        row = (("left", 1), ("right", 1), ("right", 0), ("left", 0))
        other = (("right", 0), ("left", 0), ("left", 1), ("right", 1))
        self.assertFalse(is_far_one(3, row, other))
        self.assertTrue(are_alike(3, row, other, "any"))

    def test_layers(self):
        for cords, row in small_rows():
            layers = layers_of(cords, row)
            self.assertEqual(sum(len(layer) for layer in layers), len(row))
            for layer in layers:
                self.assertEqual(places(layer), tuple(sorted(places(layer))))
                for at in range(len(layer) - 1):
                    self.assertTrue(are_far(layer[at], layer[at + 1]))
            for before, behind in zip(layers, layers[1:]):
                for crossing in behind:
                    self.assertTrue([one for one in before if not are_far(one, crossing)])
            self.assertTrue(is_far_one(cords, row, tuple(c for layer in layers for c in layer)))


class TestSizes(unittest.TestCase):
    def test_sixty_crossings(self):
        row = (("left", 0),) * 30 + (("right", 3),) * 30
        count = 1
        for factor in range(30):
            count = count * (60 - factor) // (factor + 1)
        self.assertEqual(far_count(5, row), count)
        self.assertEqual(loose_count(5, row), 900)
        self.assertEqual(far_greatest(5, row), row[::-1])
        self.assertEqual(far_steps(5, row, row[::-1]), 900)
        self.assertEqual(exchanged(5, row, far_chain(5, row, row[::-1])), row[::-1])
        self.assertEqual(exchanged(5, row, (29, 29) * 500), row)
        try_great(self, 2000, far_rows, 5, row)

    def test_two_thousand_far_rows(self):
        def blocks(*sizes):
            row = ()
            for low, high in sizes:
                row += (("left", 0),) * low + (("right", 2),) * high + (("left", 1),)
            return row

        row = blocks((1, 1), (2, 3), (3, 2), (1, 9))
        self.assertEqual(far_count(4, row), 2000)
        self.assertEqual(len(set(far_rows(4, row))), 2000)
        row = blocks((1, 2), (22, 1), (1, 28))
        self.assertEqual(far_count(4, row), 2001)
        try_great(self, 2000, far_rows, 4, row)

    def test_long_rows_without_a_plan(self):
        for cords in (2, 3, 4, 5):
            for row in some_rows(cords, 5, 60):
                least, greatest = far_least(cords, row), far_greatest(cords, row)
                self.assertTrue(is_far_one(cords, least, greatest))
                self.assertEqual(far_steps(cords, least, greatest), loose_count(cords, row))
                self.assertEqual(exchanged(cords, row, far_chain(cords, row, least)), least)
                self.assertEqual(far_count(cords, row), far_count(cords, greatest))
                if cords < 4:
                    self.assertEqual(far_count(cords, row), 1)


class TestWrongOnes(unittest.TestCase):
    def test_layers(self):
        both = (("cords", 4, wrong_cords()), ("row", ROW, wrong_rows(4)))
        for function in (layers_of, far_least, far_greatest, far_count, far_rows, loose_count):
            try_refusals(self, function, *both)
        for function in (is_far_one, far_steps, far_chain):
            try_refusals(self, function, *both, ("other", ROW[::-1], wrong_rows(4)))

    def test_exchanged(self):
        wrong = [(value, BadNumber, VERY) for value in (None, True, 0, "", [], [0], {}, NOTHING)]
        try_refusals(
            self, exchanged, ("cords", 4, wrong_cords()), ("row", ROW, wrong_rows(4)), ("numbers", (0, 0), wrong))
        for thing in (1, 2, 3, -1, None, True, False, "0", (0,), [0], 10 ** 30, NOTHING):
            for numbers in ((thing,), (0, thing), (0, 0, thing, None), (0, thing, "no")):
                with self.assertRaises(BadNumber) as caught:
                    exchanged(4, ROW, numbers)
                self.assertIs(caught.exception.value, thing)
        # What is far by then counts, not what was far at first.
        row = (("left", 1), ("left", 3), ("left", 0))
        self.assertEqual(exchanged(5, row, (1,)), (("left", 1), ("left", 0), ("left", 3)))
        self.assertEqual(exchanged(5, row, (0, 0)), row)
        with self.assertRaises(BadNumber) as caught:
            exchanged(5, row, (1, 0))
        self.assertEqual(caught.exception.value, 0)
        with self.assertRaises(BadNumber):
            exchanged(2, (), (0,))


if __name__ == "__main__":
    unittest.main()
