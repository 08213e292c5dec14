"""[36]: cordrules/peeled.py."""

import unittest
from itertools import permutations, product

from cordrules.likeness import forms_of, forms_on
from cordrules.peeled import next_peeled, peeled, peeled_row, weights_of
from cordrules.rows import back_row
from cordrules.words import letters_back, least_word
from helpers import (
    FAR_LONG, LONG, beginning, crossings, rows_to, some_rows, try_great, try_refusals, wrong_cords, wrong_forms,
    wrong_rows)

ROW = (("left", 0), ("right", 1), ("left", 1))


def weight(form):
    """The weight of a form, from the words of the document."""
    letters = list(form[0])
    while letters and letters[-1][0] == form[1]:
        letters.pop()
    return 2 * len(letters) + 1


def next_by_words(cords, forms):
    """The crossing that is peeled next, and what remains, from the words of the document."""
    for place in range(cords - 1):
        for side in ("left", "right"):
            before = forms_on(cords, "through", forms, back_row(cords, ((side, place),)))
            if sum(map(weight, before)) < sum(map(weight, forms)):
                return (side, place), before
    return None, forms


def some_forms():
    """Forms by "through", shown ones and others."""
    words = [(), ((0, 1),), ((1, -1),), ((0, 1), (1, 1)), ((1, 1), (0, -1), (1, 1)), ((0, 1), (0, 1), (1, -1))]
    for one, other in product(words, repeat=2):
        for order in permutations(range(2)):
            yield 2, ((one, order[0]), (other, order[1]))
    # Nothing of these can be peeled: each cord is far from all others but one.
    for sign in (1, -1):
        yield 5, tuple((((4 - cord, sign), (cord, sign), ((cord + 1) % 5, -sign)), cord) for cord in range(5))
        yield 5, tuple((tuple((far, sign) for far in range(5)), cord) for cord in (4, 2, 0, 3, 1))
    for row in some_rows(4, 6, 5):
        forms = forms_of(4, row, "through")
        yield 4, forms
        yield 4, forms[::-1]
        yield 4, ((forms[0][0], forms[1][1]), (forms[1][0], forms[0][1])) + forms[2:]
        yield 4, tuple((least_word(4, ((3, 1),) + word), cord) for word, cord in forms)
        yield 4, tuple((least_word(4, word + ((cord, -1),) * 3), cord) for word, cord in forms)
        yield 4, tuple((letters_back(4, word), cord) for word, cord in forms)


class TestPeeled(unittest.TestCase):
    def test_by_the_words(self):
        for cords, forms in some_forms():
            self.assertEqual(weights_of(cords, forms), tuple(map(weight, forms)))
            row, rest = [], forms
            while True:
                crossing, behind = next_by_words(cords, rest)
                self.assertEqual(next_peeled(cords, rest), crossing)
                if crossing is None:
                    break
                row.append(crossing)
                rest = behind
            self.assertEqual(peeled(cords, forms), (tuple(row[::-1]), rest))
            self.assertEqual(forms_on(cords, "through", rest, tuple(row[::-1])), forms)

    def test_weights(self):
        forms = ((((0, 1), (1, 1), (0, -1), (0, -1)), 0), (((1, 1), (0, 1), (1, -1)), 1))
        self.assertEqual(weights_of(2, forms), (5, 5))
        self.assertEqual(weights_of(2, ((((0, -1),) * 2000, 0), (((0, 1),) * 2000, 1))), (1, 4001))
        self.assertEqual(weights_of(5, beginning(5, "through")), (1,) * 5)

    def test_peeled_rows_are_equal_just_for_equal_forms(self):
        for cords, most in ((2, 6), (3, 4), (4, 3)):
            forms_by_row, rows_by_forms = {}, {}
            for row in rows_to(cords, most):
                forms = forms_of(cords, row, "through")
                told = peeled_row(cords, row)
                self.assertEqual(forms_by_row.setdefault(told, forms), forms)
                self.assertEqual(rows_by_forms.setdefault(forms, told), told)
                self.assertEqual(forms_of(cords, told, "through"), forms)
                self.assertEqual(peeled(cords, forms), (told, beginning(cords, "through")))

    def test_long_ones(self):
        row = (("left", 0),) * 60
        self.assertEqual(peeled_row(2, row), row)
        # Words of 2,000 letters, and rows of many more than 60 crossings.
        forms = beginning(2, "through")
        many = 0
        while True:
            behind = forms_on_or_none(forms)
            if behind is None:
                break
            forms, many = behind, many + 1
        self.assertGreaterEqual(max(len(word) for word, _ in forms), 1999)
        self.assertEqual(peeled(2, forms), ((("left", 0),) * many, beginning(2, "through")))
        alternating = ((1, 1), (0, 1)) * 1000
        row, rest = peeled(2, ((alternating, 0), (alternating[::-1], 1)))
        self.assertEqual(forms_on_all(rest, row), ((alternating, 0), (alternating[::-1], 1)))
        for cords, row in ((3, LONG), (3, FAR_LONG), (5, LONG)):
            try_great(self, 2000, peeled_row, cords, row)
        self.assertEqual(peeled_row(3, LONG[:6] + back_row(3, LONG[:6])), ())

    def test_wrong_ones(self):
        cords, forms = ("cords", 2, wrong_cords()), (
            "forms", forms_of(2, (("left", 0),) * 2, "through"), wrong_forms("through"))
        for function in (weights_of, next_peeled, peeled):
            try_refusals(self, function, cords, forms)
        try_refusals(self, peeled_row, ("cords", 3, wrong_cords()), ("row", ROW, wrong_rows(3)))
        self.assertIn(next_peeled(2, forms[1]), crossings(2))


def forms_on_or_none(forms):
    try:
        return forms_on(2, "through", forms, (("left", 0),))
    except ValueError:
        return None


def forms_on_all(forms, row):
    """What becomes of forms along a row of any length."""
    for at in range(0, len(row), 60):
        forms = forms_on(2, "through", forms, row[at:at + 60])
    return forms


if __name__ == "__main__":
    unittest.main()
