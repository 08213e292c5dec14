"""[35]: cordrules/among.py."""

import unittest
from itertools import permutations, product
from math import comb

from cordrules.among import deeds_of, how_many_rows, next_states, number_among, row_among
from cordrules.errors import BadNumber, BadPaper, TooGreat
from cordrules.likeness import forms_of
from helpers import (
    A, B, LONG, NOTHING, VERY, beginning, crossings, deep, rows_of, rows_to, some_rows, try_great, try_refusals,
    wrong_cords, wrong_forms, wrong_rows)

ROW = (("left", 0), ("right", 1), ("left", 1))


def kinds_of_rows(cords, most):
    """All rows of few crossings by their forms, ascending."""
    found = {}
    for row in rows_to(cords, most):
        found.setdefault(forms_of(cords, row, "any"), []).append(row)
    return found


def grown(deeds, cord, many):
    """The form of a cord behind so many of its deeds."""
    form = ("cord", cord)
    for side, above in deeds[cord][:many]:
        form = ("on" if side == "left" else "off", above, form)
    return form


def leads_on(cords, deeds, state):
    """What fits a state, from the words of the document."""
    order, done = state
    for side, place in crossings(cords):
        low, high = order[place], order[place + 1]
        over, under = (low, high) if side == "left" else (high, low)
        if done[under] < len(deeds[under]) and deeds[under][done[under]] == (side, grown(deeds, over, done[over])):
            far_order, far_done = list(order), list(done)
            far_order[place:place + 2] = high, low
            far_done[under] += 1
            yield (side, place), (tuple(far_order), tuple(far_done))


class TestDeeds(unittest.TestCase):
    def test_deeds_of_rows(self):
        self.assertEqual(deeds_of(2, beginning(2, "any")), ((), ()))
        for cords, most in ((2, 4), (3, 3), (5, 2)):
            for row in rows_to(cords, most):
                forms = forms_of(cords, row, "any")
                deeds = deeds_of(cords, forms)
                self.assertEqual(sum(len(told) for told in deeds), len(row))
                self.assertEqual({grown(deeds, cord, None) for cord in range(cords)}, set(forms))

    def test_innermost_first(self):
        form = ("on", ("off", A, B), ("off", B, ("on", A, A)))
        self.assertEqual(deeds_of(2, (B, form)), ((("left", A), ("right", B), ("left", ("off", A, B))), ()))
        self.assertEqual(len(deeds_of(2, (deep(61), A))[1]), 60)

    def test_next_states(self):
        for cords, most in ((2, 4), (3, 2)):
            for row in rows_to(cords, most)[::3]:
                forms = forms_of(cords, row, "any")
                deeds = deeds_of(cords, forms)
                for order in permutations(range(cords)):
                    for done in product(*[range(len(told) + 1) for told in deeds]):
                        state = (order, done)
                        self.assertEqual(
                            next_states(cords, forms, state), tuple(leads_on(cords, deeds, state)))
        # More than 60 deeds are no hindrance.
        forms = (deep(61), deep(61, A))
        self.assertEqual(
            next_states(2, forms, ((0, 1), (0, 0))),
            ((("left", 0), ((1, 0), (0, 1))),))


class TestRowsAmong(unittest.TestCase):
    def test_all_rows(self):
        for cords, most in ((2, 6), (3, 4), (4, 3), (5, 2)):
            for forms, rows in kinds_of_rows(cords, most).items():
                self.assertEqual(how_many_rows(cords, forms), len(rows))
                for number, row in enumerate(rows):
                    self.assertEqual(row_among(cords, forms, number), row)
                    self.assertEqual(number_among(cords, row), number)
                with self.assertRaises(BadNumber) as caught:
                    row_among(cords, forms, len(rows))
                self.assertEqual(caught.exception.value, len(rows))

    def test_the_far_pair_of_the_document(self):
        row = (("left", 1), ("right", 1), ("right", 0), ("left", 0))
        other = (("right", 0), ("left", 0), ("left", 1), ("right", 1))
        forms = forms_of(3, row, "any")
        self.assertEqual(how_many_rows(3, forms), 2)
        self.assertEqual((row_among(3, forms, 0), row_among(3, forms, 1)), (row, other))
        self.assertEqual((number_among(3, row), number_among(3, other)), (0, 1))

    def test_no_row(self):
        for forms in ((B, A), (A, ("on", A, B)), (("off", A, B), A), (("on", B, A), B), (("on", A, A), B)):
            self.assertEqual(how_many_rows(2, forms), 0)
            for number in (0, 1, 10 ** 40):
                with self.assertRaises(BadNumber):
                    row_among(2, forms, number)
        self.assertEqual(how_many_rows(2, (A, B)), 1)
        self.assertEqual(row_among(2, (A, B), 0), ())

    def test_sixty_deeds(self):
        row = (("left", 0),) * 30 + (("right", 2),) * 30
        self.assertEqual(number_among(4, row), 0)
        self.assertEqual(number_among(4, row[::-1]), comb(60, 30) - 1)
        self.assertEqual(number_among(5, (("left", 3),) * 2 + (("left", 0),) * 2), 5)
        for row in some_rows(5, 3, 60) + [LONG]:
            number = number_among(5, row)
            self.assertGreaterEqual(number, 0)
        row = (("left", 0),) * 8 + (("right", 2),) * 8
        forms = forms_of(4, row, "any")
        self.assertEqual(how_many_rows(4, forms), comb(16, 8))
        for number in (0, 1, 100, comb(16, 8) - 1):
            self.assertEqual(number_among(4, row_among(4, forms, number)), number)
        # All 60 deeds of one cord under another one that never changes cannot be.
        self.assertEqual(how_many_rows(2, (deep(61), A)), 0)
        over = (("cord", 0), deep(61), ("on", A, ("cord", 2)))
        try_great(self, 60, how_many_rows, 3, over)
        try_great(self, 60, row_among, 3, over, 0)
        try_great(self, 60, row_among, 3, over, 10 ** 30)
        self.assertEqual([len(told) for told in deeds_of(3, over)], [0, 60, 1])
        with self.assertRaises(BadNumber):
            row_among(3, over, -1)
        with self.assertRaises(BadNumber):
            row_among(3, over, True)

    def test_wrong_ones(self):
        forms = forms_of(2, (("left", 0),), "any")
        cords, told = ("cords", 2, wrong_cords()), ("forms", forms, wrong_forms("any"))
        try_refusals(self, deeds_of, cords, told)
        try_refusals(self, how_many_rows, cords, told)
        numbers = [(value, BadNumber, VERY) for value in (
            1, 2, -1, 10 ** 30, None, True, False, "0", "", [0], (0,), {}, NOTHING)]
        try_refusals(self, row_among, cords, told, ("number", 0, numbers))
        state = ((0, 1), (0, 0))
        states = [(value, BadPaper, "state") for value in (
            None, True, 0, "", "ab", (), [], {}, NOTHING, ((0, 1),), state + (0,), [(0, 1), (0, 0)], ((0, 0), (0, 0)),
            ((0, 1), (0, 2)), ((0, 1), (1, 0)), ((0, 1), (-1, 0)), ((0, 1), (0, True)), ((False, True), (0, 0)),
            ((0,), (0, 0)), ((0, 1, 2), (0, 0)), ((0, 1), (0,)), ((0, 1), (0, 0, 0)), ([0, 1], (0, 0)),
            ((0, 1), [0, 0]), ((0, 1), (None, 0)), (None, None), ((0, 2), (0, 0)), ((0, 1), (0, 10 ** 30)))]
        try_refusals(self, next_states, cords, told, ("state", state, states))
        try_refusals(self, number_among, ("cords", 3, wrong_cords()), ("row", ROW, wrong_rows(3)))
        self.assertTrue(issubclass(TooGreat, Exception))
        for row in rows_of(2, 2):
            self.assertEqual(number_among(cords=2, row=row), 0)


if __name__ == "__main__":
    unittest.main()
