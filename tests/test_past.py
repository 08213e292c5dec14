"""[44]: cordrules/past.py."""

import unittest
from itertools import product

from cordrules.likeness import are_alike, forms_of, forms_on
from cordrules.past import first_not_past, goes_past, goes_past_all
from cordrules.rows import back_row, order_of
from helpers import (
    CUSTOMS, FAR_LONG, LONG, beginning, crossings, rows_to, some_rows, try_great, try_refusals, wrong_cords,
    wrong_customs, wrong_rows)

a, b, ra, rb = ("left", 0), ("left", 1), ("right", 0), ("right", 1)


def is_long(cords, row):
    try:
        forms_of(cords, row, "through")
    except ValueError:
        return True
    return False


class TestPast(unittest.TestCase):
    def test_small_rows(self):
        for custom in CUSTOMS:
            for cords, most in ((2, 3), (3, 2), (4, 1)):
                for row, other in product(rows_to(cords, most), repeat=2):
                    expected = are_alike(cords, row + other, other + row, custom)
                    self.assertIs(goes_past(cords, row, other, custom), expected)

    def test_first_not_past(self):
        for custom in CUSTOMS:
            rows = [(2, row) for row in rows_to(2, 4)] + [(3, row) for row in rows_to(3, 3)] + [
                (5, row) for row in some_rows(5, 3, 4)] + [(4, ())]
            for cords, row in rows:
                against = [one for one in crossings(cords) if not goes_past(cords, row, (one,), custom)]
                self.assertEqual(first_not_past(cords, row, custom), against[0] if against else None)
                self.assertIs(goes_past_all(cords, row, custom), not against)
                if not against and len(row) < 4:
                    for far in some_rows(cords, 4, 5):
                        self.assertIs(goes_past(cords, row, far, custom), True)

    def test_facts(self):
        for cords in (2, 3, 4, 5):
            full_turn = tuple(("left", place) for place in range(cords - 1)) * cords
            self.assertIs(goes_past_all(cords, full_turn, "through"), True)
            self.assertIsNone(first_not_past(cords, back_row(cords, full_turn), "through"))
            for far in some_rows(cords, 3, 6):
                self.assertIs(goes_past(cords, full_turn, far, "through"), True)
                self.assertIs(goes_past(cords, far, full_turn, "began"), True)
            if cords > 2:
                for row in rows_to(cords, 2):
                    self.assertEqual(
                        goes_past_all(cords, row, "never"), order_of(cords, row) == tuple(range(cords)))
        self.assertIs(goes_past(3, (a,), (ra,), "back"), True)
        self.assertIs(goes_past(3, (a,), (ra,), "any"), False)
        self.assertIs(goes_past(4, (a,), (("right", 2),), "any"), True)
        self.assertIs(goes_past_all(4, (), "any"), True)

    def test_sixty_crossings(self):
        for custom in ("any", "back", "began", "twice", "never"):
            for cords, row, other in ((3, LONG, LONG), (3, LONG, FAR_LONG), (5, some_rows(5, 1, 60)[0], LONG)):
                expected = forms_behind(cords, row + other, custom) == forms_behind(cords, other + row, custom)
                self.assertIs(goes_past(cords, row, other, custom), expected)
            self.assertEqual(first_not_past(3, LONG, custom), next(
                (one for one in crossings(3) if not goes_past(3, LONG, (one,), custom)), None))
        self.assertIs(goes_past(2, (a,) * 60, (ra,) * 60, "through"), True)
        self.assertIs(goes_past(2, (a,) * 60, (a,) * 60, "any"), True)

    def test_long_rows(self):
        for function in (first_not_past, goes_past_all):
            try_great(self, 2000, function, 3, LONG, "through")
        for row, other in ((LONG, ()), ((), LONG), (LONG, (a,)), (LONG, LONG), (FAR_LONG, LONG[:1])):
            try_great(self, 2000, goes_past, 3, row, other, "through")
        # Either succession may be the long one, and orders make no difference.
        most = max(many for many in range(60) if not is_long(3, LONG[:many]))
        seen = set()
        for many in range(most - 3, most + 1):
            for row in (LONG[:many], FAR_LONG[:many], LONG[:many][::-1]):
                first = None
                for other in crossings(3):
                    long = is_long(3, row + (other,)), is_long(3, (other,) + row)
                    seen.add(long)
                    if any(long):
                        try_great(self, 2000, goes_past, 3, row, (other,), "through")
                        first = first or "long"
                    elif not goes_past(3, row, (other,), "through"):
                        first = first or other
                # Crossings behind the answer are not looked at.
                if first == "long":
                    try_great(self, 2000, first_not_past, 3, row, "through")
                    try_great(self, 2000, goes_past_all, 3, row, "through")
                else:
                    self.assertEqual(first_not_past(3, row, "through"), first)
                    self.assertIs(goes_past_all(3, row, "through"), False)
                seen.add((first == "long", is_long(3, row + (("right", 0),))))
                self.assertIs(goes_past(3, row, (), "through"), is_long(3, row) is False)
        self.assertEqual(seen, {(one, other) for one in (True, False) for other in (True, False)})

    def test_wrong_ones(self):
        cords, row, custom = ("cords", 3, wrong_cords()), ("row", (a, b), wrong_rows(3)), (
            "custom", "through", wrong_customs())
        try_refusals(self, goes_past, cords, row, ("other", (rb,), wrong_rows(3)), custom)
        try_refusals(self, first_not_past, cords, row, custom)
        try_refusals(self, goes_past_all, cords, row, custom)


def forms_behind(cords, row, custom):
    """The forms of a row of any length, terms by numbers that are given them in their turn."""
    if custom not in ("any", "back"):
        here = beginning(cords, custom)
        for at in range(0, len(row), 60):
            here = forms_on(cords, custom, here, row[at:at + 60])
        return here
    numbers, made = NUMBERS.setdefault(custom, ({}, []))
    forms = [number_of(numbers, made, ("cord", cord)) for cord in range(cords)]
    for side, place in row:
        low, high = forms[place], forms[place + 1]
        over, under, word, other = (low, high, "on", "off") if side == "left" else (high, low, "off", "on")
        if custom == "back" and made[under][0] == other and made[under][1] == over:
            behind = made[under][2]
        else:
            behind = number_of(numbers, made, (word, over, under))
        forms[place:place + 2] = (behind, low) if side == "left" else (high, behind)
    return forms


NUMBERS = {}


def number_of(numbers, made, thing):
    if thing not in numbers:
        numbers[thing] = len(made)
        made.append(thing)
    return numbers[thing]


if __name__ == "__main__":
    unittest.main()
