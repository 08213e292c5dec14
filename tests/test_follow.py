"""[46], [47]: cordrules/follow.py."""

import unittest
from itertools import product
from math import factorial

from cordrules.books import book_numbers
from cordrules.follow import book_form, book_kinds, book_period, does_follow, least_alike
from cordrules.likeness import are_alike, forms_of
from cordrules.plain import plain_book
from cordrules.rows import order_of
from cordrules.rules import run_colours
from cordrules.steps import least_row
from helpers import (
    first_with_forms, rows_to, some_rows, try_great, try_refusals, wrong_books, wrong_cords, wrong_customs, wrong_rows)

a, b, c, ra, rb = ("left", 0), ("left", 1), ("left", 2), ("right", 0), ("right", 1)
BOOK_CUSTOMS = ("began", "twice", "never")
UNLIKE = ((2, (a,), ()),)
TWO = ((2, (a, a), (ra, ra)),)
THREE = ((3, (a, b, a), (ra, rb, ra)),)
FOUR = ((4, (a, rb, rb, a), (("right", 2), b, b, ("right", 2))),)
BOOKS = ((), UNLIKE, TWO, THREE, FOUR, TWO + THREE, ((2, (a,) * 6, ()),), ((2, (a,) * 6, ()),) + THREE,
         ((2, (a,) * 12, ()),) + FOUR, ((2, (a, a), ()),), FOUR + UNLIKE, ((2, (a,) * 8, ()),) + THREE,
         ((3, (a, b, a, a, b, a), ()),), ((2, (a,) * 6, ()),) + FOUR)


def turning_rules(custom, book, modulus, many):
    """All rules that turn numbers, with so many weights, that keep the custom and follow the book."""
    found = []
    for weights in product(range(modulus), repeat=many):
        rule = ("turns", modulus, weights)
        if custom == "never" and any(weights):
            continue
        if custom == "twice" and any(2 * weight % modulus for weight in weights):
            continue
        if all(are_same(rule, *triple) for triple in book):
            found.append(rule)
    return found


def are_same(rule, cords, row, other):
    """Whether two rows bring the same colours for all letters and some numbers, on which nothing depends."""
    if rule[1] > 1 or len(rule[2]) > 1:
        for letters in product(range(len(rule[2])), repeat=cords):
            # The numbers tell the cords apart, where there are not too few of them.
            starts = [tuple((0, letter) for letter in letters)]
            starts += [tuple((int(cord == far), letters[cord]) for cord in range(cords)) for far in range(cords)
                       if rule[1] > 1]
            for colours in starts:
                if run_colours(cords, row, rule, colours) != run_colours(cords, other, rule, colours):
                    return False
    return True


class TestFollow(unittest.TestCase):
    def test_book_forms(self):
        for custom, book in product(BOOK_CUSTOMS, BOOKS):
            numbers = book_numbers(custom, book)
            for cords in (2, 3, 5):
                for row in rows_to(cords, 2) + some_rows(cords, 3, 60):
                    form = book_form(cords, row, custom, book)
                    if numbers is None:
                        self.assertIsNone(form)
                        continue
                    expected = []
                    for counts, cord in forms_of(cords, row, "began"):
                        counts, total = list(counts), sum(counts)
                        if numbers[0]:
                            counts = [count % numbers[0] for count in counts]
                        expected.append((tuple(counts), total % numbers[1] if numbers[1] else total, cord))
                    self.assertEqual(form, tuple(expected))
        self.assertEqual(book_form(2, (ra, ra), "began", ()), (((0, -1), -1, 0), ((-1, 0), -1, 1)))
        self.assertEqual(book_form(2, (ra, ra), "twice", ()), (((0, 1), 1, 0), ((1, 0), 1, 1)))
        self.assertEqual(book_form(2, (ra, ra), "never", ()), (((0, 0), 0, 0), ((0, 0), 0, 1)))

    def test_following_is_having_the_same_form(self):
        for custom, book in product(BOOK_CUSTOMS, BOOKS):
            for cords, most in ((2, 4), (3, 2)):
                rows = rows_to(cords, most)
                forms = [book_form(cords, row, custom, book) for row in rows]
                for (row, form), (other, far_form) in list(product(zip(rows, forms), repeat=2))[::3]:
                    self.assertIs(does_follow(cords, row, other, custom, book), form == far_form)
            for triple in book:
                self.assertIs(does_follow(*triple, custom, book), True)
        for custom in BOOK_CUSTOMS:
            for row, other in list(product(rows_to(3, 3), repeat=2))[::11]:
                self.assertIs(does_follow(3, row, other, custom, ()), are_alike(3, row, other, custom))
                self.assertIs(does_follow(3, row, other, custom, UNLIKE), True)

    def test_beside_all_weights(self):
        for custom, book in product(BOOK_CUSTOMS, BOOKS):
            rules = [rule for modulus, many in ((1, 2), (2, 2), (3, 2), (4, 2), (4, 3), (6, 2))
                     for rule in turning_rules(custom, book, modulus, many)]
            for cords in (2, 3):
                for row, other in list(product(rows_to(cords, 3), repeat=2))[::37]:
                    if does_follow(cords, row, other, custom, book):
                        for rule in rules:
                            self.assertTrue(are_same(rule, cords, row, other))
                    elif order_of(cords, row) != order_of(cords, other):
                        self.assertFalse(all(are_same(rule, cords, row, other) for rule in rules))
                    elif None is not book_numbers(custom, book) and 0 not in book_numbers(custom, book):
                        if book_numbers(custom, book)[1] in (1, 2, 3, 4, 6):
                            self.assertFalse(all(are_same(rule, cords, row, other) for rule in rules))


class TestKinds(unittest.TestCase):
    def test_beside_the_kinds_themselves(self):
        for custom, book in product(BOOK_CUSTOMS, BOOKS):
            for cords in (2, 3, 4):
                total = book_kinds(cords, custom, book)
                numbers = book_numbers(custom, book)
                if numbers is not None and numbers[1] == 0:
                    self.assertIsNone(total)
                    continue
                if total <= 1600:
                    found = first_with_forms(cords, lambda row: book_form(cords, row, custom, book), 1600)
                    self.assertEqual(len(found), total, (cords, custom, book))
        for cords in (2, 3, 4, 5):
            pairs = cords * (cords - 1) // 2
            self.assertEqual(book_kinds(cords, "never", ()), factorial(cords))
            self.assertEqual(book_kinds(cords, "twice", ()), factorial(cords) * 2 ** pairs)
            self.assertIsNone(book_kinds(cords, "began", ()))
            self.assertEqual(book_kinds(cords, "began", UNLIKE), 1)
            self.assertEqual(book_kinds(cords, "began", THREE + ((2, (a,) * 12, ()),)), factorial(cords) * (
                2 if cords == 2 else 2 ** (cords - 1)))
        self.assertIsNone(book_kinds(4, "began", FOUR))
        self.assertEqual(book_kinds(5, "began", ((2, (a,) * 60, (ra,) * 60),)), 120 * 60 ** 10)

    def test_least_alike(self):
        for custom, book in product(BOOK_CUSTOMS, BOOKS):
            for cords, most in ((2, 6), (3, 4), (4, 2)):
                rows = rows_to(cords, most)
                firsts = {}
                for row in rows:
                    firsts.setdefault(book_form(cords, row, custom, book), row)
                for row in rows[::5]:
                    expected = firsts[book_form(cords, row, custom, book)]
                    self.assertEqual(least_alike(cords, row, custom, book), expected)
        self.assertEqual(least_alike(2, (ra,) * 3, "twice", ()), (a,))
        self.assertEqual(least_alike(5, some_rows(5, 1, 60)[0], "began", UNLIKE), ())
        self.assertEqual(least_alike(2, (ra,) * 60, "began", ()), (ra,) * 60)
        self.assertEqual(least_alike(3, (a,) * 60, "twice", THREE), ())

    def test_two_thousand_kinds(self):
        try_great(self, 2000, least_alike, 3, (a,) * 60, "began", ())
        try_great(self, 2000, least_alike, 4, (a,) * 60, "began", FOUR)
        try_great(self, 2000, least_alike, 5, some_rows(5, 1, 60)[0], "twice", ())
        row = least_alike(5, some_rows(5, 1, 60)[0], "never", ())
        self.assertEqual(row, least_row(5, some_rows(5, 1, 60)[0], "never"))
        # Just the first two thousand rows are told: those that are ahead are gone through here.
        told = first_with_forms(4, lambda row: book_form(4, row, "began", ()), 2000)
        for number in (1000, 1998, 1999):
            self.assertEqual(least_alike(4, told[number], "began", ()), told[number])
        for number in (2000, len(told) - 1):
            try_great(self, 2000, least_alike, 4, told[number], "began", ())

    def test_periods(self):
        for custom, book in product(BOOK_CUSTOMS, BOOKS):
            for cords in (2, 3, 4):
                for row in rows_to(cords, 2)[::2] + some_rows(cords, 3, 5):
                    found = book_period(cords, row, custom, book)
                    for times in range(1, 60 // max(1, len(row)) + 1):
                        if does_follow(cords, row * times, (), custom, book):
                            self.assertEqual(found, times)
                            break
                    else:
                        self.assertTrue(found is None or found * len(row) > 60)
        self.assertEqual(book_period(2, (a,), "began", UNLIKE), 1)
        self.assertIsNone(book_period(2, (a,), "began", ()))
        self.assertIsNone(book_period(2, (a,), "began", FOUR))
        self.assertEqual(book_period(2, (a,), "began", ((2, (a,) * 60, (ra,) * 60),)), 120)
        self.assertEqual(book_period(5, (), "began", ()), 1)
        self.assertEqual(book_period(3, (a, rb), "began", ()), 3)

    def test_wrong_ones(self):
        cords, row, other = ("cords", 3, wrong_cords()), ("row", (a, b), wrong_rows(3)), ("other", (b,), wrong_rows(3))
        custom, book = ("custom", "twice", wrong_customs(BOOK_CUSTOMS)), ("book", THREE, wrong_books())
        for function in (book_form, book_period, least_alike):
            try_refusals(self, function, cords, row, custom, book)
        try_refusals(self, does_follow, cords, row, other, custom, book)
        try_refusals(self, book_kinds, cords, custom, book)
        self.assertEqual(plain_book("began", ()), ())


if __name__ == "__main__":
    unittest.main()
