"""[42], [43]: cordrules/again.py."""

import unittest
from itertools import product

from cordrules.again import both_times, forms_after, period, row_again, times
from cordrules.likeness import are_alike, forms_of, forms_on
from cordrules.rows import back_row
from helpers import (
    CUSTOMS, LONG, beginning, crossings, rows_to, some_rows, try_great, try_refusals, wrong_cords, wrong_customs,
    wrong_numbers, wrong_rows)

a, b, ra, rb = ("left", 0), ("left", 1), ("right", 0), ("right", 1)
BY_PAIRS = ("began", "twice", "never")


def forms_many(cords, row, most, custom):
    """The forms behind a row done 0 times, once and so on."""
    found = [beginning(cords, custom)]
    for _ in range(most):
        found.append(forms_on(cords, custom, found[-1], row))
    return found


def told(pairs, number):
    """Whether numbers of times that are told have a number."""
    return any(number == first if step == 0 else number >= first and (number - first) % step == 0
               for first, step in pairs)


def some_pairs(cords):
    rows = rows_to(cords, 2) + some_rows(cords, 6, 5) + some_rows(cords, 3, 60) + [()]
    chosen = list(product(rows, rows))
    return chosen[::max(1, len(chosen) // 120)]


class TestRowAgain(unittest.TestCase):
    def test_rows(self):
        for cords in (2, 3, 5):
            for row in some_rows(cords, 4, 7) + [()]:
                for many in (0, 1, 2, 9):
                    self.assertEqual(row_again(cords, row, many), row * many)
        self.assertEqual(row_again(2, (), 10 ** 9), ())
        self.assertEqual(row_again(2, (a,), 0), ())
        self.assertEqual(row_again(2, (a,), 6000), (a,) * 6000)
        self.assertEqual(len(row_again(3, LONG, 100)), 6000)
        try_great(self, 6000, row_again, 2, (a,), 6001)
        try_great(self, 6000, row_again, 3, LONG, 101)
        try_great(self, 6000, row_again, 3, (a,), 10 ** 9)

    def test_wrong_ones(self):
        try_refusals(
            self, row_again, ("cords", 3, wrong_cords()), ("row", (a, b), wrong_rows(3)),
            ("many", 5, wrong_numbers(0, 10 ** 9)))


class TestPeriod(unittest.TestCase):
    def test_beside_doing_it(self):
        for custom in BY_PAIRS:
            for cords in (2, 3, 4, 5):
                for row in rows_to(cords, 2) + some_rows(cords, 12, 9) + some_rows(cords, 3, 60):
                    forms = forms_many(cords, row, 60, custom)
                    home = [many for many in range(1, 61) if forms[many] == forms[0]]
                    self.assertEqual(period(cords, row, custom), home[0] if home else None, (row, custom))

    def test_any_and_through(self):
        for cords in (2, 3, 4):
            for row in rows_to(cords, 3):
                self.assertEqual(period(cords, row, "any"), None if row else 1)
                alike = are_alike(cords, row, (), "through")
                self.assertEqual(period(cords, row, "through"), 1 if alike else None)
        self.assertEqual(period(3, LONG, "any"), None)
        for cords in (3, 4, 5):
            for row in (LONG, LONG[:24] + back_row(3, LONG[:24])):
                try_great(self, 2000, period, cords, row, "through")

    def test_named_ones(self):
        self.assertEqual(period(2, (a,), "never"), 2)
        self.assertEqual(period(2, (a,), "twice"), 4)
        self.assertIsNone(period(2, (a,), "began"))
        self.assertEqual(period(2, (a, ra), "began"), 1)
        self.assertEqual(period(5, (a, rb, ("left", 2), ("right", 3)), "never"), 5)
        self.assertEqual(period(3, (a, rb), "began"), 3)
        self.assertEqual([period(3, (), custom) for custom in CUSTOMS if custom != "back"], [1] * 5)

    def test_wrong_ones(self):
        try_refusals(
            self, period, ("cords", 3, wrong_cords()), ("row", (a, b), wrong_rows(3)),
            ("custom", "twice", wrong_customs(("any", "through", "began", "twice", "never"))))


class TestTimes(unittest.TestCase):
    def test_beside_doing_it(self):
        for custom in BY_PAIRS:
            for cords in (2, 3, 4, 5):
                for row, other in some_pairs(cords):
                    found = times(cords, row, other, custom)
                    self.assertLessEqual(len(found), 1)
                    goal = forms_of(cords, other, custom)
                    for number, forms in enumerate(forms_many(cords, row, 70, custom)):
                        self.assertEqual(told(found, number), forms == goal)
                    self.check_steps(found, period(cords, row, "never" if custom == "began" else custom))

    def check_steps(self, found, step):
        self.assertEqual(found, tuple(sorted(found)))
        for first, told_step in found:
            self.assertGreaterEqual(first, 0)
            self.assertIn(told_step, (0, step))
            self.assertTrue(told_step == 0 or first < told_step)

    def test_any(self):
        for cords in (2, 3):
            for row, other in product(rows_to(cords, 2), rows_to(cords, 3)):
                found = times(cords, row, other, "any")
                for number in range(5):
                    self.assertEqual(told(found, number), are_alike(cords, row * number, other, "any"))
        self.assertEqual(times(3, (), (), "any"), ((0, 1),))
        self.assertEqual(times(3, (), (a,), "any"), ())
        self.assertEqual(times(3, (a,), (), "any"), ((0, 0),))
        self.assertEqual(times(4, (a,), (a,) * 60, "any"), ((60, 0),))
        self.assertEqual(times(4, (a, ("left", 2)), (("left", 2), a) * 30, "any"), ((30, 0),))
        self.assertEqual(times(4, (a, ("left", 2)), (("left", 2), a) * 29 + (a, a), "any"), ())

    def test_both_times(self):
        for custom in BY_PAIRS:
            for cords in (2, 3, 4, 5):
                for row, other in some_pairs(cords)[::2]:
                    found = both_times(cords, row, other, custom)
                    self.assertEqual(found, tuple(sorted(found)))
                    one, far = forms_many(cords, row, 130, custom), forms_many(cords, other, 130, custom)
                    for number in range(131):
                        self.assertEqual(told(found, number), one[number] == far[number])
                    steps = {step for _, step in found} - {0}
                    self.assertLessEqual(len(steps), 1)
                    self.assertTrue(all(step == 0 or first < step for first, step in found))
                    if custom != "began":
                        self.assertEqual(found[0][0], 0)
                    self.assertEqual(both_times(cords, other, row, custom), found)

    def test_named_ones(self):
        self.assertEqual(times(2, (a,), (a, a, a), "twice"), ((3, 4),))
        self.assertEqual(times(2, (a,), (a, a, a), "began"), ((3, 0),))
        self.assertEqual(times(2, (a,), (ra,), "began"), ())
        self.assertEqual(times(2, (a,), (ra,), "twice"), ((3, 4),))
        self.assertEqual(times(2, (a,), (a,) * 60, "began"), ((60, 0),))
        self.assertEqual(times(2, (a, ra), (), "began"), ((0, 1),))
        self.assertEqual(times(3, (), (), "never"), ((0, 1),))
        self.assertEqual(times(3, (a, b), (a, b, a, b), "never"), ((2, 3),))
        self.assertEqual(both_times(2, (a,), (a,), "began"), ((0, 2), (1, 2)))
        self.assertEqual(both_times(2, (a,), (ra,), "began"), ((0, 0),))
        self.assertEqual(both_times(2, (a,), (ra,), "twice"), ((0, 4), (2, 4)))
        self.assertEqual(both_times(3, (a,), (a, b), "never"), ((0, 6),))
        # Before they go on alike, two rows may be alike once.
        self.assertEqual(both_times(3, (a, a), (), "began"), ((0, 0),))
        # Pair numbers that come together late.
        row, other = (a,) * 2 + (b,), (b,) * 3
        for number in range(40):
            self.assertEqual(
                told(both_times(3, row, other, "began"), number),
                forms_many(3, row, 40, "began")[number] == forms_many(3, other, 40, "began")[number])

    def test_wrong_ones(self):
        specs = (("cords", 3, wrong_cords()), ("row", (a, b), wrong_rows(3)), ("other", (b,), wrong_rows(3)))
        try_refusals(self, times, *specs, ("custom", "twice", wrong_customs(("any",) + BY_PAIRS)))
        try_refusals(self, both_times, *specs, ("custom", "twice", wrong_customs(BY_PAIRS)))


class TestFormsAfter(unittest.TestCase):
    def test_beside_doing_it(self):
        for custom in BY_PAIRS:
            for cords in (2, 3, 4, 5):
                for row in rows_to(cords, 1) + some_rows(cords, 6, 11) + some_rows(cords, 2, 60):
                    for many, forms in enumerate(forms_many(cords, row, 30, custom)):
                        self.assertEqual(forms_after(cords, row, many, custom), forms)

    def test_great_numbers(self):
        great = 10 ** 9
        self.assertEqual(forms_after(2, (a,), great, "began"), (((0, great // 2), 0), ((great // 2, 0), 1)))
        self.assertEqual(forms_after(2, (ra,), great - 1, "began"), (
            ((1 - great // 2, 0), 1), ((0, -(great // 2)), 0)))
        self.assertEqual(forms_after(2, (a,) * 60, great, "twice"), (((0, 0), 0), ((0, 0), 1)))
        self.assertEqual(forms_after(3, (a, b), great, "never"), (1, 2, 0))
        for row in some_rows(5, 5, 60):
            for custom in BY_PAIRS:
                # Doubling: what is done twice as often is done so often, and then so often again.
                for many in (great, 123456788):
                    half = forms_after(5, row, many // 2, custom)
                    self.assertEqual(joined(custom, half, half), forms_after(5, row, many, custom))
        self.assertEqual(forms_after(4, (), great, "began"), beginning(4, "began"))
        self.assertEqual(len(crossings(4)), 6)

    def test_wrong_ones(self):
        try_refusals(
            self, forms_after, ("cords", 3, wrong_cords()), ("row", (a, b), wrong_rows(3)),
            ("many", 5, wrong_numbers(0, 10 ** 9)), ("custom", "began", wrong_customs(BY_PAIRS)))


def joined(custom, forms, other):
    """The forms of a row with these forms and another one with the others behind it."""
    if custom == "never":
        return tuple(forms[cord] for cord in other)
    found = []
    for counts, at in other:
        own, cord = forms[at]
        sums = list(own)
        for far, count in enumerate(counts):
            sums[forms[far][1]] += count
        found.append((tuple(count % 2 if custom == "twice" else count for count in sums), cord))
    return tuple(found)


if __name__ == "__main__":
    unittest.main()
