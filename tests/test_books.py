"""[46], [47], [49]: cordrules/books.py."""

import unittest
from itertools import combinations
from math import gcd

from cordrules.books import book_numbers, difference, least_part, need_book, says, spare_triples, unsaid
from cordrules.errors import BadBook
from cordrules.likeness import forms_of, pair_numbers
from cordrules.rows import order_of, turned_over
from helpers import (
    rows_to, some_rows, try_one, try_refusals, wrong_books, wrong_cords, wrong_customs, wrong_rows)

a, b, c, ra, rb = ("left", 0), ("left", 1), ("left", 2), ("right", 0), ("right", 1)
BOOK_CUSTOMS = ("began", "twice", "never")
OWN = {"began": 0, "twice": 2, "never": 1}


def by_counts(cords, row, other):
    """The difference, from the counts by "began" themselves."""
    if order_of(cords, row) != order_of(cords, other):
        return None
    one = {cord: counts for counts, cord in forms_of(cords, row, "began")}
    far = {cord: counts for counts, cord in forms_of(cords, other, "began")}
    return tuple(tuple(one[cord][at] - far[cord][at] for at in range(cords)) for cord in range(cords))


def numbers_by_counts(custom, book):
    """The numbers of a book, from the words of the document."""
    told = [by_counts(*triple) for triple in book]
    if None in told:
        return None
    items, sums = OWN[custom], OWN[custom]
    for lines in told:
        for line in lines:
            items, sums = gcd(items, *line), gcd(sums, sum(line))
    return items, sums


def twists(cords, place, one, other):
    """A triple of which one row crosses a pair so often, the other one likewise."""
    def told(many):
        return (("left" if many > 0 else "right", place),) * abs(many)
    return cords, told(one), told(other)


def some_books():
    """Books with few and with many triples."""
    triples = [twists(2, 0, 4, -4), twists(2, 0, 6, -6), twists(3, 1, 3, -1), twists(4, 2, 1, -1), twists(2, 0, 1, 0),
               twists(5, 0, 60, -60), (3, (a, b, a), (b, a, b)), (3, (a, b, a), (ra, rb, ra)),
               (3, (a, b, a, a, b, a), ()), (4, (a, a, c, c), ()), (3, (a, b, b, ra), ()), (3, (), ())]
    yield ()
    for triple in triples:
        yield (triple,)
    for pair in combinations(triples, 2):
        yield pair
    yield tuple(triples)
    yield tuple(triple for triple in triples if by_counts(*triple) is not None)
    for row in some_rows(4, 6, 14):
        yield ((4, row, turned_over(4, row)), twists(2, 0, 12, -12))


class TestBooks(unittest.TestCase):
    def test_differences(self):
        for cords, most in ((2, 4), (3, 3), (5, 1)):
            rows = rows_to(cords, most)[::2] + some_rows(cords, 2, 60)
            for row in rows:
                for other in rows[::3]:
                    lines = difference(cords, row, other)
                    self.assertEqual(lines, by_counts(cords, row, other))
                    if lines is not None:
                        numbers = zip(pair_numbers(cords, row), pair_numbers(cords, other))
                        for (one, far, number), (_, _, far_number) in numbers:
                            self.assertEqual(lines[one][far] * 2, number - far_number)
                            self.assertEqual(lines[far][one], lines[one][far])
        self.assertEqual(difference(2, (a,) * 4, ()), ((0, 2), (2, 0)))
        self.assertIsNone(difference(2, (a,), ()))

    def test_numbers(self):
        for book in some_books():
            self.assertIs(need_book(book), book)
            for custom in BOOK_CUSTOMS:
                self.assertEqual(book_numbers(custom, book), numbers_by_counts(custom, book))
        self.assertEqual([book_numbers(custom, ()) for custom in BOOK_CUSTOMS], [(0, 0), (2, 2), (1, 1)])
        self.assertIsNone(book_numbers("never", (twists(2, 0, 1, 0),)))
        self.assertEqual(book_numbers("began", (twists(5, 3, 60, -60),)), (60, 60))
        self.assertEqual(book_numbers("began", ((3, (a, b, a), (ra, rb, ra)),)), (1, 2))
        self.assertEqual(book_numbers("twice", ((3, (a, b, a), (ra, rb, ra)),)), (1, 2))

    def test_what_books_say(self):
        books = list(some_books())
        for custom in BOOK_CUSTOMS:
            for book in books[::5] + books[-3:]:
                numbers = numbers_by_counts(custom, book)
                for far_book in books[::7] + books[-4:]:
                    expected = tuple(at for at, triple in enumerate(far_book)
                                     if not follows(numbers, numbers_by_counts("began", (triple,))))
                    self.assertEqual(unsaid(custom, book, far_book), expected)
                    self.assertIs(says(custom, book, far_book), expected == ())
                    # As the document tells it by the numbers of both.
                    self.assertIs(says(custom, book, far_book), follows(numbers, numbers_by_counts(custom, far_book)))
                self.assertIs(says(custom, book, book), True)
                self.assertEqual(unsaid(custom, book, ()), ())

    def test_spare_triples(self):
        for custom in BOOK_CUSTOMS:
            for book in list(some_books())[::3] + list(some_books())[-8:]:
                expected = tuple(at for at in range(len(book)) if says(custom, book[:at] + book[at + 1:], (book[at],)))
                self.assertEqual(spare_triples(custom, book), expected)
        book = (twists(2, 0, 4, 0), twists(2, 0, 6, 0), twists(2, 0, 4, 0))
        self.assertEqual(spare_triples("began", book), (0, 2))
        self.assertEqual(spare_triples("twice", book), (0, 2))
        self.assertEqual(spare_triples("never", book), (0, 1, 2))
        self.assertEqual(spare_triples("began", (twists(2, 0, 1, 0),)), ())
        self.assertEqual(spare_triples("began", (twists(2, 0, 1, 0),) * 2), (0, 1))

    def test_least_parts(self):
        for custom in BOOK_CUSTOMS:
            for book in list(some_books())[::3] + list(some_books())[-8:]:
                numbers = book_numbers(custom, book)
                parts = [part for many in range(len(book) + 1) for part in combinations(range(len(book)), many)]
                expected = next(
                    part for part in parts if numbers_by_counts(custom, tuple(book[at] for at in part)) == numbers)
                self.assertEqual(least_part(custom, book), expected)
                if len(book) > 6:
                    break
        self.assertEqual(least_part("began", ()), ())
        self.assertEqual(least_part("began", (twists(2, 0, 12, 0), twists(2, 0, 8, 0), twists(2, 0, 20, 0))), (0, 1))
        self.assertEqual(least_part("twice", (twists(2, 0, 8, 0), twists(2, 0, 2, 0))), (1,))

    def test_twelve_and_thirteen_triples(self):
        triples = tuple(twists(2, 0, 2 * many, 0) for many in (30, 24, 18, 12, 20, 28, 16, 22, 26, 14, 8, 10))
        self.assertIs(need_book(triples), triples)
        self.assertEqual(book_numbers("began", triples), (2, 2))
        self.assertEqual(least_part("began", triples), (0, 5))
        self.assertEqual(len(spare_triples("began", triples)), 12)
        try_one(self, need_book, {"book": triples + triples[:1]}, triples, BadBook, None)


def follows(numbers, far_numbers):
    """Whether by the first numbers there follows what has the second ones."""
    if numbers is None or far_numbers is None:
        return numbers is None
    return all(far == 0 if one == 0 else far % one == 0 for one, far in zip(numbers, far_numbers))


class TestWrongOnes(unittest.TestCase):
    def test_wrong_ones(self):
        book = ("book", (twists(2, 0, 3, 1), (3, (a, b, a), ())), wrong_books())
        custom = ("custom", "twice", wrong_customs(BOOK_CUSTOMS))
        try_refusals(self, need_book, book)
        try_refusals(
            self, difference, ("cords", 3, wrong_cords()), ("row", (a, b), wrong_rows(3)),
            ("other", (a, b, ra, a, rb, b), wrong_rows(3)))
        for function in (book_numbers, spare_triples, least_part):
            try_refusals(self, function, custom, book)
        for function in (says, unsaid):
            try_refusals(self, function, custom, book, ("far_book", (), wrong_books()))


if __name__ == "__main__":
    unittest.main()
