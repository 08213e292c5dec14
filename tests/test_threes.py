"""[41]: cordrules/threes.py."""

import unittest
from itertools import product

from cordrules.errors import BadForm
from cordrules.kinds import Kinds
from cordrules.likeness import are_alike, forms_of, forms_on
from cordrules.rows import back_row
from cordrules.threes import (
    fewest_of_halves, half_turns, halves_back, halves_joined, need_halves, row_of_halves)
from helpers import LONG, NOTHING, beginning, rows_to, some_rows, try_refusals, wrong_rows

a, b, ra, rb = ("left", 0), ("left", 1), ("right", 0), ("right", 1)
PIECES = ((a,), (b,), (a, b), (b, a))


def pieces_to(most):
    """All tuples of at most so many pieces that follow one another."""
    found = [()]
    for many in range(1, most + 1):
        for pieces in product(PIECES, repeat=many):
            if all(one[-1] == other[0] for one, other in zip(pieces, pieces[1:])):
                found.append(pieces)
    return found


def forms_behind(row):
    """The forms by "through" behind a row of any length."""
    forms = beginning(3, "through")
    for at in range(0, len(row), 60):
        forms = forms_on(3, "through", forms, row[at:at + 60])
    return forms


class TestHalfTurns(unittest.TestCase):
    def test_example(self):
        halves = half_turns((a, rb))
        self.assertEqual(halves, (-1, ((b,), (b, a))))
        self.assertEqual(fewest_of_halves(halves), 2)
        self.assertEqual(half_turns(()), (0, ()))
        self.assertEqual(half_turns((a, b, a)), (1, ()))
        self.assertEqual(half_turns((rb, ra, rb)), (-1, ()))

    def test_rows_there_and_back(self):
        known = {}
        for row in rows_to(3, 5) + some_rows(3, 30, 9):
            halves = half_turns(row)
            self.assertIs(need_halves(halves), halves)
            far = row_of_halves(halves)
            forms = forms_of(3, row, "through")
            self.assertEqual(forms_behind(far), forms)
            self.assertEqual(known.setdefault(forms, halves), halves)
            self.assertEqual(halves_back(halves), half_turns(back_row(3, row)))
        self.assertEqual(len(set(known.values())), len(known))

    def test_halves_there_and_back(self):
        for many in range(-3, 4):
            for pieces in pieces_to(3):
                row = row_of_halves((many, pieces))
                turns = (a, b, a) * many if many >= 0 else (ra, rb, ra) * -many
                self.assertEqual(row, turns + tuple(crossing for piece in pieces for crossing in piece))
                self.assertEqual(half_turns(row), (many, pieces))

    def test_joined(self):
        some = [(many, pieces) for many in (-2, -1, 0, 1, 2) for pieces in pieces_to(3)]
        for one, other in list(product(some[::5], some[::3])) + [(one, halves_back(one)) for one in some]:
            joined = halves_joined(one, other)
            row = row_of_halves(one) + row_of_halves(other)
            self.assertIs(need_halves(joined), joined)
            self.assertEqual(half_turns(row), joined)
        for one in some:
            self.assertEqual(halves_joined(one, halves_back(one)), (0, ()))
            self.assertEqual(halves_joined(halves_back(one), one), (0, ()))

    def test_lengths(self):
        lengths = {}
        for row in rows_to(3, 6):
            lengths.setdefault(half_turns(row), len(row))
        for halves, length in lengths.items():
            self.assertEqual(fewest_of_halves(halves), length, halves)
        kinds = Kinds(3, "through")
        for number in range(0, 2000, 13):
            row = kinds.row_of(number)
            self.assertEqual(fewest_of_halves(half_turns(row)), len(row))
        # Each crossing more changes the length by one, and some crossing lowers it.
        for many in range(-9, 4):
            for pieces in pieces_to(4):
                length = fewest_of_halves((many, pieces))
                self.assertEqual(length == 0, (many, pieces) == (0, ()))
                self.assertEqual(fewest_of_halves(halves_back((many, pieces))), length)
                near = [fewest_of_halves(halves_joined((many, pieces), half_turns((one,)))) for one in (a, b, ra, rb)]
                self.assertTrue(all(abs(one - length) == 1 for one in near))
                self.assertTrue(length == 0 or min(near) == length - 1)

    def test_sizes(self):
        pieces = tuple(((a, b), (b, a))[at % 2] for at in range(60))
        for halves in ((60, pieces), (-60, pieces), (-60, ()), (60, ((a,),) * 60)):
            self.assertIs(need_halves(halves), halves)
            row = row_of_halves(halves)
            self.assertEqual(len(row), 3 * abs(halves[0]) + sum(len(piece) for piece in halves[1]))
            joined = halves_joined(halves, halves)
            self.assertEqual(joined[0], 2 * halves[0])
            self.assertEqual(len(joined[1]), 2 * len(halves[1]))
            back = halves_back(halves)
            self.assertEqual(len(back[1]), len(halves[1]))
        self.assertEqual(fewest_of_halves((60, pieces)), 300)
        self.assertEqual(fewest_of_halves((-60, pieces)), 60)
        self.assertEqual(fewest_of_halves((-60, ((a,),) * 60)), 120)
        self.assertEqual(fewest_of_halves((-60, ())), 180)
        # A long row is taken like any other.
        halves = half_turns(LONG)
        self.assertEqual(halves_joined(halves, half_turns(back_row(3, LONG))), (0, ()))
        self.assertEqual(fewest_of_halves(half_turns(LONG[:30] + back_row(3, LONG[:30]))), 0)
        self.assertEqual(fewest_of_halves(halves), 60)
        self.assertTrue(are_alike(3, (), row_of_halves(half_turns((a, b, rb, ra))), "through"))


class TestWrongOnes(unittest.TestCase):
    def test_row(self):
        try_refusals(self, half_turns, ("row", (a, rb), wrong_rows(3)))

    def test_halves(self):
        good = (-1, ((b,), (b, a)))
        whole = [None, True, 0, "", "ab", (), [], {}, NOTHING, (0,), (0, (), ()), [0, ()], (None, ()), (True, ()),
                 ("0", ()), (61, ()), (-61, ()), (10 ** 30, ()), ((0,), ()), (0, None), (0, []), (0, [(a,)]), (0, 0),
                 (0, "ab"), (0, {}), (0, NOTHING), (0, ((a,),) * 61), (61, (None,)), (0, (None,) * 61)]
        wrong = [(value, BadForm, None) for value in whole]
        for thing in (None, True, 0, "a", "", (), [], [a], {}, NOTHING, a, (ra,), (a, a), (b, b), (a, b, a), (a, rb),
                      (("left", 2),), (("left", True),), (("left", -1),), (None,), (a, None), ([a],), ("a",), (b, [a])):
            wrong.append(((0, (thing,)), BadForm, 0))
            wrong.append(((5, ((a, b), thing, None)), BadForm, 1))
        wrong += [((0, ((a,), (b,))), BadForm, 1), ((0, ((a, b), (a, b))), BadForm, 1),
                  ((0, ((a,), (a, b), (b,), (b,), (a,))), BadForm, 4), ((0, ((a,), (b, a))), BadForm, 1)]
        spec = ("halves", good, wrong)
        for function in (need_halves, row_of_halves, fewest_of_halves, halves_back):
            try_refusals(self, function, spec)
        try_refusals(self, halves_joined, spec, ("far_halves", good, wrong))


if __name__ == "__main__":
    unittest.main()
