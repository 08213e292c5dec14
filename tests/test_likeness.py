"""[13] to [17], [29], [30]: cordrules/likeness.py."""

import unittest
from itertools import combinations, product

from cordrules.breaches import keeps
from cordrules.errors import BadCustom, BadNumber
from cordrules.filled import all_tables
from cordrules.likeness import (
    are_alike, beginning_forms, customs, forms_of, forms_on, need_forms, pair_number, pair_numbers, stronger_forms,
    weakest_custom)
from cordrules.rows import order_of
from cordrules.rules import run_colours
from cordrules.words import least_word, letters_back
from helpers import (
    A, B, CUSTOMS, FAR_LONG, LONG, VERY, beginning, full, longest_terms, rows_to, some_rows, try_great,
    try_refusals, worked, wrong_cord, wrong_cords, wrong_customs, wrong_forms, wrong_rows)

ROW = (("left", 0), ("right", 1), ("left", 1))


def small_rows():
    found = [(2, row) for row in rows_to(2, 5)] + [(3, row) for row in rows_to(3, 4)]
    return found + [(4, row) for row in rows_to(4, 2)] + [(5, row) for row in some_rows(5, 10, 8)]


def form_behind(custom):
    """What becomes of a form, from the words of the document."""
    def by_terms(side, over, under):
        word, other = ("on", "off") if side == "left" else ("off", "on")
        if custom == "back" and under[0] == other and under[1] == over:
            return under[2]
        return (word, over, under)

    def by_words(side, over, under):
        letter = (over[1], 1 if side == "left" else -1)
        return least_word(3, over[0] + (letter,) + letters_back(3, over[0]) + under[0]), under[1]

    def by_counts(side, over, under):
        counts = list(under[0])
        counts[over[1]] += 1 if side == "left" else -1
        if custom == "twice":
            counts[over[1]] %= 2
        return tuple(counts), under[1]

    if custom in ("any", "back"):
        return by_terms
    if custom == "through":
        return by_words
    return (lambda side, over, under: under) if custom == "never" else by_counts


class TestForms(unittest.TestCase):
    def test_customs(self):
        self.assertEqual(customs(), CUSTOMS)

    def test_examples(self):
        self.assertEqual(forms_of(2, (("left", 0), ("left", 0)), "began"), (((0, 1), 0), ((1, 0), 1)))
        self.assertEqual(pair_number(2, (("left", 0), ("left", 0)), 0, 1), 2)
        self.assertEqual(forms_of(2, (("left", 0),), "any"), (("on", A, B), A))
        self.assertEqual(forms_of(2, (("right", 0),), "back"), (B, ("off", B, A)))
        self.assertEqual(forms_of(2, (("left", 0), ("right", 0)), "back"), (A, B))
        self.assertEqual(forms_of(2, (("left", 0), ("right", 0)), "any"), (A, ("off", A, ("on", A, B))))
        self.assertEqual(forms_of(2, (("left", 0),) * 2, "through"), ((((0, 1), (1, 1), (0, -1)), 0), (((0, 1),), 1)))
        self.assertEqual(forms_of(2, (("left", 0), ("right", 0), ("right", 0)), "twice"), (((0, 0), 1), ((0, 1), 0)))
        self.assertEqual(forms_of(5, (), "twice")[4], ((0,) * 5, 4))

    def test_forms_of_small_rows(self):
        for custom in CUSTOMS:
            for cords in (2, 3, 4, 5):
                self.assertEqual(beginning_forms(cords, custom), beginning(cords, custom))
            for row in rows_to(3, 4):
                expected = worked(beginning(3, custom), row, form_behind(custom))
                self.assertEqual(forms_of(3, row, custom), expected)
                self.assertIs(need_forms(3, custom, expected), expected)

    def test_forms_on(self):
        for cords, row in small_rows():
            for custom in CUSTOMS:
                for cut in (0, len(row) // 2, len(row)):
                    forms = forms_of(cords, row[:cut], custom)
                    self.assertEqual(forms_on(cords, custom, forms, row[cut:]), forms_of(cords, row, custom))
        forms = (((3, -7), 1), ((10 ** 999, 0), 0))
        self.assertEqual(forms_on(2, "began", forms, (("right", 0),)), (((10 ** 999, 0), 0), ((2, -7), 1)))
        self.assertEqual(
            forms_on(2, "through", ((((0, 1),), 0), (((0, 1),), 1)), (("left", 0),)),
            ((((0, 1), (0, 1)), 1), (((0, 1),), 0)))
        terms = (("on", B, B), ("off", ("on", B, B), A))
        self.assertEqual(forms_on(2, "back", terms, (("left", 0),)), (A, ("on", B, B)))
        self.assertEqual(forms_on(2, "any", terms, (("left", 0),)), (("on", terms[0], terms[1]), terms[0]))

    def test_step_by_step(self):
        for cords, row in small_rows():
            told = [forms_of(cords, row, custom) for custom in CUSTOMS]
            for number, custom in enumerate(CUSTOMS):
                for far_number in range(number, 6):
                    self.assertEqual(
                        stronger_forms(cords, custom, told[number], CUSTOMS[far_number]), told[far_number])
        forms = (((3, -7), 1), ((0, 4), 0))
        self.assertEqual(stronger_forms(2, "began", forms, "twice"), (((1, 1), 1), ((0, 0), 0)))
        self.assertEqual(stronger_forms(2, "began", forms, "never"), (1, 0))
        self.assertEqual(stronger_forms(2, "began", forms, "began"), forms)
        forms = (("on", A, ("off", A, B)), A)
        self.assertEqual(stronger_forms(2, "any", forms, "any"), forms)
        self.assertEqual(stronger_forms(2, "any", forms, "back"), (B, A))
        forms = ((((0, 1), (0, 1)), 1), ((), 0))
        self.assertEqual(stronger_forms(2, "through", forms, "began"), (((2, 0), 1), ((0, 0), 0)))


class TestLikeness(unittest.TestCase):
    def test_alike_exactly_if_forms_are_equal(self):
        for cords, most in ((2, 3), (3, 2), (4, 1)):
            for row, other in product(rows_to(cords, most), repeat=2):
                alike = [forms_of(cords, row, custom) == forms_of(cords, other, custom) for custom in CUSTOMS]
                self.assertEqual([are_alike(cords, row, other, custom) for custom in CUSTOMS], alike)
                # Once alike, alike by every stronger one, and of one order.
                self.assertEqual(alike, sorted(alike))
                weakest = CUSTOMS[alike.index(True)] if True in alike else None
                self.assertEqual(weakest_custom(cords, row, other), weakest)
                self.assertEqual(alike[-1], order_of(cords, row) == order_of(cords, other))

    def test_known_pairs(self):
        a, b = ("left", 0), ("left", 1)
        self.assertEqual(weakest_custom(3, (a, b, a), (b, a, b)), "through")
        self.assertEqual(weakest_custom(3, (a, ("right", 0)), ()), "back")
        self.assertEqual(weakest_custom(3, (a,) * 4, ()), "twice")
        self.assertEqual(weakest_custom(3, (a, a), ()), "never")
        self.assertEqual(weakest_custom(3, (a, a, b, b), (b, b, a, a)), "began")
        self.assertIsNone(weakest_custom(3, (a,), ()))
        self.assertEqual(weakest_custom(4, (a, ("left", 2)), (("left", 2), a)), "any")
        self.assertEqual(weakest_custom(2, (), ()), "any")

    def test_alike_rows_beside_tables(self):
        for custom in CUSTOMS:
            tables = all_tables(2, custom) + (all_tables(3, custom) if custom != "any" else ())
            if len(tables) > 60:
                tables = tables[::9]
            self.assertTrue(all(keeps(table, custom) for table in tables))
            for cords, most in ((2, 3), (3, 2)):
                for row, other in combinations(rows_to(cords, most), 2):
                    if are_alike(cords, row, other, custom):
                        for table in tables:
                            for colours in product(range(len(table[1])), repeat=cords):
                                self.assertEqual(
                                    run_colours(cords, row, table, colours), run_colours(cords, other, table, colours))

    def test_long_rows(self):
        half = LONG[:10]
        self.assertEqual(len(forms_of(3, half, "through")), 3)
        for custom in ("any", "back", "through"):
            try_great(self, 2000, forms_of, 3, LONG, custom)
            try_great(self, 2000, forms_on, 3, custom, forms_of(3, half, custom), LONG)
        for custom in ("began", "twice", "never"):
            self.assertEqual(forms_of(3, LONG, custom), forms_on(3, custom, forms_of(3, half, custom), LONG[10:]))
        try_great(self, 2000, are_alike, 3, LONG, LONG, "through")
        try_great(self, 2000, are_alike, 3, LONG, (), "through")
        try_great(self, 2000, are_alike, 3, (), LONG, "through")
        try_great(self, 2000, are_alike, 3, LONG, (("left", 0),), "through")
        for custom in ("any", "back", "began", "twice", "never"):
            self.assertTrue(are_alike(3, LONG, LONG, custom))
            self.assertFalse(are_alike(3, LONG, LONG[:-1], custom))
        self.assertFalse(are_alike(3, LONG, FAR_LONG, "any"))
        self.assertFalse(are_alike(3, LONG, FAR_LONG, "back"))
        self.assertEqual(are_alike(3, LONG, FAR_LONG, "never"), order_of(3, LONG) == order_of(3, FAR_LONG))

    def test_weakest_custom_of_long_rows(self):
        self.assertEqual(weakest_custom(3, LONG, LONG), "any")
        undone = LONG[:56] + (("left", 0), ("right", 0))
        self.assertEqual(weakest_custom(3, undone, LONG[:56]), "back")
        try_great(self, 2000, weakest_custom, 3, LONG, ())
        try_great(self, 2000, weakest_custom, 3, (), LONG)
        try_great(self, 2000, weakest_custom, 3, (("left", 0),), LONG)

    def test_a_row_may_be_long_on_its_way(self):
        half = LONG[:30]
        row = half + tuple(("left" if side == "right" else "right", place) for side, place in half[::-1])
        self.assertTrue(are_alike(3, row, (), "back"))
        self.assertEqual(forms_of(3, row, "back"), beginning(3, "back"))
        try_great(self, 2000, forms_of, 3, row, "through")
        try_great(self, 2000, are_alike, 3, (), row, "through")
        self.assertEqual(weakest_custom(3, row, ()), "back")
        try_great(self, 2000, forms_of, 3, row, "any")

    def test_two_thousand_letters(self):
        forms = (((), 0), (((0, 1),) * 2000, 1))
        self.assertIs(need_forms(2, "through", forms), forms)
        self.assertEqual(
            forms_on(2, "through", (((), 0), (((0, 1),) * 1999, 1)), (("left", 0),))[0], (((0, 1),) * 2000, 1))
        try_great(self, 2000, forms_on, 2, "through", forms, (("left", 0),))
        self.assertEqual(forms_on(2, "through", forms, ()), forms)
        # Behind the next crossing it would be short again.
        try_great(self, 2000, forms_on, 2, "through", forms, (("left", 0), ("right", 0)))
        self.assertEqual(stronger_forms(2, "through", forms, "began"), (((0, 0), 0), ((2000, 0), 1)))

    def test_great_terms(self):
        forms = (full(10), ("on", full(9), ("on", A, B)))
        self.assertIs(need_forms(2, "any", forms), forms)
        self.assertEqual(len(forms_on(2, "any", forms, (("left", 0),))), 2)
        try_great(self, 2000, forms_on, 2, "any", forms, (("left", 0),) * 2)
        long, _ = longest_terms()
        self.assertEqual(stronger_forms(2, "any", (long, B), "back"), (long, B))
        try_great(self, 2000, stronger_forms, 2, "any", (long, B), "through")
        try_great(self, 2000, stronger_forms, 2, "any", (long, B), "never")
        # Its parts count no more when the term is made least first.
        self.assertEqual(
            stronger_forms(2, "any", (("off", long, ("on", long, A)), B), "through"), (((), 0), ((), 1)))


class TestPairNumbers(unittest.TestCase):
    def test_pair_numbers(self):
        self.assertEqual(pair_numbers(2, ()), ((0, 1, 0),))
        self.assertEqual(pair_numbers(3, ROW), ((0, 1, 1), (0, 2, 0), (1, 2, 0)))
        for cords, row in small_rows() + [(cords, row) for cords in (2, 5) for row in some_rows(cords, 5, 60)]:
            found = {}
            order = list(range(cords))
            for side, place in row:
                pair = tuple(sorted(order[place:place + 2]))
                found[pair] = found.get(pair, 0) + (1 if side == "left" else -1)
                order[place:place + 2] = order[place + 1], order[place]
            pairs = list(combinations(range(cords), 2))
            self.assertEqual(pair_numbers(cords, row), tuple(pair + (found.get(pair, 0),) for pair in pairs))
            counts = {cord: told for told, cord in forms_of(cords, row, "began")}
            halves = {cord: told for told, cord in forms_of(cords, row, "twice")}
            for one, other in pairs:
                number = pair_number(cords, row, one, other)
                self.assertEqual(number, found.get((one, other), 0))
                self.assertEqual(number % 2 == 1, order.index(one) > order.index(other))
                self.assertEqual(counts[other][one], (number + 1) // 2)
                self.assertEqual(counts[one][other], number // 2)
                self.assertEqual(halves[other][one], (number % 4 + 1) // 2 % 2)
                self.assertEqual(halves[one][other], number % 4 // 2)

    def test_pair_numbers_tell_likeness(self):
        for row, other in combinations(rows_to(3, 3), 2):
            one, far_one = pair_numbers(3, row), pair_numbers(3, other)
            same = order_of(3, row) == order_of(3, other)
            self.assertEqual(are_alike(3, row, other, "began"), same and one == far_one)
            close = all((a[2] - b[2]) % 4 == 0 for a, b in zip(one, far_one))
            self.assertEqual(are_alike(3, row, other, "twice"), same and close)


class TestWrongOnes(unittest.TestCase):
    cords = ("cords", 3, wrong_cords())
    row = ("row", ROW, wrong_rows(3))
    custom = ("custom", "through", wrong_customs())

    def test_rows(self):
        other = ("other", ROW[::-1], wrong_rows(3))
        try_refusals(self, beginning_forms, self.cords, self.custom)
        try_refusals(self, forms_of, self.cords, self.row, self.custom)
        try_refusals(self, are_alike, self.cords, self.row, other, self.custom)
        try_refusals(self, weakest_custom, self.cords, self.row, other)
        try_refusals(self, pair_numbers, self.cords, self.row)
        far = [(value, BadNumber, VERY) for value in (0, 1)] + wrong_cord(3)
        try_refusals(
            self, pair_number, self.cords, self.row, ("cord", 1, wrong_cord(3)), ("far_cord", 2, far))
        for value in (0, 1, 2, 3, None):
            with self.assertRaises(BadNumber) as caught:
                pair_number(3, (), 2, value)
            self.assertIs(caught.exception.value, value)

    def test_forms(self):
        for custom in CUSTOMS:
            cords = ("cords", 2, wrong_cords())
            told = ("custom", custom, wrong_customs())
            forms = ("forms", beginning(2, custom)[::-1], wrong_forms(custom))
            try_refusals(self, need_forms, cords, told, forms)
            try_refusals(self, forms_on, cords, told, forms, ("row", (("left", 0),), wrong_rows(2)))
            weaker = [(one, BadCustom, VERY) for one in CUSTOMS[:CUSTOMS.index(custom)]]
            try_refusals(
                self, stronger_forms, cords, told, forms, ("far_custom", "never", weaker + wrong_customs()))


if __name__ == "__main__":
    unittest.main()
