"""[38] to [40]: cordrules/kinds.py."""

import unittest
from math import factorial

from cordrules.errors import BadCords, BadCustom, BadNumber, BadRow
from cordrules.kinds import Kinds, kind_number, kind_row, kinds_by_length, kinds_total
from cordrules.likeness import are_alike, forms_of, pair_numbers
from cordrules.rows import back_row, order_of
from helpers import (
    CUSTOMS, FAR_LONG, LONG, NOTHING, VERY, crossings, rows_of, rows_to, some_rows, try_great, try_one, try_refusals,
    wrong_cords, wrong_customs, wrong_numbers, wrong_rows)

MOST = {2: 7, 3: 5, 4: 3, 5: 2}


def told_for_all(cords, custom):
    """Whether the length is told for all rows, from the words of the document."""
    return cords in {"any": (2, 3, 4, 5), "never": (2, 3, 4, 5), "twice": (2, 3, 4), "began": (2, 3),
                     "through": (2, 3), "back": (2,)}[custom]


def rows_by_forms(cords, custom, most):
    """The rows of few crossings, in their order, by their forms."""
    found = {}
    for row in rows_to(cords, most):
        found.setdefault(forms_of(cords, row, custom), []).append(row)
    return found


class TestKinds(unittest.TestCase):
    def test_all_rows_in_their_order(self):
        for custom in CUSTOMS:
            for cords, most in MOST.items():
                kinds = Kinds(cords, custom)
                self.assertEqual((kinds.cords, kinds.custom), (cords, custom))
                found = rows_by_forms(cords, custom, most)
                numbers = {forms: number for number, forms in enumerate(found)}
                for number, rows in enumerate(found.values()):
                    self.assertEqual(kinds.row_of(number), rows[0])
                    for row in rows[:2] + rows[-2:]:
                        self.assertEqual(kinds.number_of(row), number)
                    shortest = [row for row in rows if len(row) == len(rows[0])]
                    self.assertEqual(kinds.many_shortest(number), len(shortest))
                    if len(rows[0]) < most:
                        behind = [numbers[forms_of(cords, rows[0] + (one,), custom)] for one in crossings(cords)]
                        self.assertEqual(kinds.next_of(number), tuple(behind))
                by_length = [0] * (most + 1)
                for rows in found.values():
                    by_length[len(rows[0])] += 1
                self.assertEqual(kinds_by_length(cords, custom, most), tuple(by_length))

    def test_asked_in_any_turn(self):
        for custom in CUSTOMS:
            kinds, other = Kinds(3, custom), Kinds(3, custom)
            last = min(kinds_total(3, custom) or 2000, 2000) - 1
            for number in (last, 0, last // 2, 3, last - 1):
                row = kinds.row_of(number)
                self.assertEqual(kinds.number_of(row), number)
                self.assertEqual(Kinds(3, custom).number_of(row), number)
                self.assertEqual(Kinds(3, custom).next_of(number), kinds.next_of(number))
                self.assertEqual(Kinds(3, custom).many_shortest(number), kinds.many_shortest(number))
                self.assertEqual(kind_row(3, custom, number), row)
                self.assertEqual(kind_number(3, row, custom), number)
            rows = [other.row_of(number) for number in range(last + 1)]
            self.assertEqual([(len(row), row) for row in rows], sorted((len(row), row) for row in rows))
            self.assertEqual(len(set(rows)), last + 1)
            # A least row without its last crossing is a least row, too.
            self.assertTrue({row[:-1] for row in rows} <= set(rows))

    def test_next_of_the_last_ones(self):
        for cords, custom in ((2, "any"), (2, "began"), (3, "through"), (4, "began"), (5, "twice"), (3, "back")):
            kinds = Kinds(cords, custom)
            for number in (1999, 1500, 700):
                row = kinds.row_of(number)
                expected = []
                for crossing in crossings(cords):
                    try:
                        expected.append(kinds.number_of((row + (crossing,))[-60:]) if len(row) < 60 else None)
                    except ValueError:
                        expected.append(None)
                if len(row) < 60:
                    self.assertEqual(kinds.next_of(number), tuple(expected))
            self.assertIn(None, kinds.next_of(1999))
        self.assertEqual(Kinds(2, "through").next_of(1999), (None, 1997))
        self.assertEqual(Kinds(2, "through").next_of(1998), (1996, None))
        self.assertEqual(Kinds(2, "through").next_of(1997), (1999, 1995))

    def test_two_cords(self):
        for custom in ("back", "through", "began"):
            kinds = Kinds(2, custom)
            self.assertEqual(kinds.row_of(1999), (("left", 0),) * 1000)
            self.assertEqual(kinds.row_of(1998), (("right", 0),) * 999)
            self.assertEqual(kinds.number_of((("right", 0),) * 60), 120)
            self.assertEqual(kinds.many_shortest(1999), 1)
            self.assertEqual(kinds_by_length(2, custom, 30), (1,) + (2,) * 30)
        self.assertEqual([Kinds(2, "twice").row_of(number) for number in range(4)], [
            (), (("left", 0),), (("right", 0),), (("left", 0), ("left", 0))])
        self.assertEqual(kind_number(2, (("left", 0),) * 3, "twice"), 2)
        self.assertEqual(Kinds(2, "twice").many_shortest(3), 2)

    def test_numbers_of_kinds(self):
        for cords in (2, 3, 4, 5):
            for custom in CUSTOMS[:4]:
                self.assertIsNone(kinds_total(cords, custom))
            self.assertEqual(kinds_total(cords, "never"), factorial(cords))
            self.assertEqual(kinds_total(cords, "twice"), factorial(cords) * 2 ** (cords * (cords - 1) // 2))
            lengths = kinds_by_length(cords, "never", 30)
            self.assertEqual(len(lengths), 31)
            self.assertEqual(sum(lengths), factorial(cords))
            if cords < 5:
                lengths = kinds_by_length(cords, "twice", 30)
                self.assertEqual(sum(lengths), kinds_total(cords, "twice"))
                self.assertEqual(lengths[cords * (cords - 1):][:2], (1, 0))
                kinds = Kinds(cords, "twice")
                row = kinds.row_of(kinds_total(cords, "twice") - 1)
                self.assertEqual(len(row), cords * (cords - 1))
                self.assertEqual(order_of(cords, row), tuple(range(cords)))
                self.assertTrue(all(number % 4 == 2 for _, _, number in pair_numbers(cords, row)))
        self.assertEqual(Kinds(3, "never").many_shortest(5), 16)

    def test_lengths_of_kinds(self):
        self.assertEqual(kinds_by_length(3, "through", 4), (1, 4, 12, 30, 68))
        self.assertEqual(kinds_by_length(2, "any", 30), tuple(2 ** length for length in range(31)))
        self.assertEqual(kinds_by_length(5, "back", 0), (1,))
        # By "through" on three cords as many as the kinds that are gone through, and further on without an end.
        kinds = Kinds(3, "through")
        lengths = [len(kinds.row_of(number)) for number in range(2000)]
        told = kinds_by_length(3, "through", 30)
        self.assertEqual(told[:8], tuple(lengths.count(length) for length in range(8)))
        self.assertEqual(told[30], 6435401786)
        sums = {}
        far = range(-12, 13)
        for x in far:
            for y in far:
                for z in far:
                    if (x % 2, y % 2, z % 2) not in ((0, 1, 0), (1, 0, 1)):
                        length = abs(x) + abs(y) + abs(z) + (2 if x == z == 0 != y else 0)
                        sums[length] = sums.get(length, 0) + 1
        self.assertEqual(kinds_by_length(3, "began", 12), tuple(sums[length] for length in range(13)))
        self.assertEqual(len(kinds_by_length(3, "began", 30)), 31)

    def test_too_many_kinds(self):
        for custom in CUSTOMS:
            for cords in (2, 3, 4, 5):
                if told_for_all(cords, custom) and (custom != "any" or cords == 2):
                    self.assertEqual(len(kinds_by_length(cords, custom, 30)), 31)
                    continue
                try_great(self, 2000, kinds_by_length, cords, custom, 30)
                kinds = Kinds(cords, custom)
                most = len(kinds.row_of(1999))
                by_length = kinds_by_length(cords, custom, most - 1)
                self.assertLessEqual(sum(by_length), 2000)
                if sum(by_length) < 2000:
                    try_great(self, 2000, kinds_by_length, cords, custom, most)

    def test_none_of_the_first_ones(self):
        for cords in (2, 3, 4, 5):
            for custom in CUSTOMS:
                kinds = Kinds(cords, custom)
                total = kinds_total(cords, custom)
                if total is not None:
                    for number in (total, total + 1, max(total, 10 ** 30)):
                        for function in (kinds.row_of, kinds.next_of, kinds.many_shortest):
                            try_one(self, function, {"number": number}, number, BadNumber, VERY)
                        arguments = {"cords": cords, "custom": custom, "number": number}
                        try_one(self, kind_row, arguments, number, BadNumber, VERY)
                if total is None or total > 2000:
                    for number in (2000, 2001, total - 1 if total else 10 ** 30):
                        for function in (kinds.row_of, kinds.next_of, kinds.many_shortest):
                            try_great(self, 2000, function, number)
                        try_great(self, 2000, kind_row, cords, custom, number)
                    row = some_rows(cords, 1, 60)[0] if custom in ("any", "twice") else (("left", 0),) * 60
                    if cords > 2 or custom == "any":
                        try_great(self, 2000, kinds.number_of, row)
                        try_great(self, 2000, kind_number, cords, row, custom)

    def test_long_rows(self):
        there = LONG[:24] + back_row(3, LONG[:24])
        for custom in ("back", "through", "began", "twice", "never"):
            self.assertEqual(kind_number(3, there + (("left", 1),), custom), 2)
        try_great(self, 2000, kind_number, 4, there, "through")
        try_great(self, 2000, Kinds(5, "through").number_of, there)
        self.assertEqual(kind_number(4, there, "back"), 0)
        self.assertEqual(kind_number(5, there, "began"), 0)
        for row in (LONG, FAR_LONG):
            for custom in ("any", "back", "through"):
                try_great(self, 2000, kind_number, 3, row, custom)
            self.assertEqual(kind_number(3, row, "began"), 0)

    def test_first_ones_are_alike_to_others(self):
        for custom in CUSTOMS:
            kinds = Kinds(4, custom)
            for row in some_rows(4, 12, 4):
                least = kinds.row_of(kinds.number_of(row))
                self.assertTrue(are_alike(4, row, least, custom))
        for row in rows_of(3, 3):
            self.assertEqual(Kinds(3, "any").many_shortest(kind_number(3, row, "any")), len([
                other for other in rows_of(3, 3) if are_alike(3, row, other, "any")]))


class TestWrongOnes(unittest.TestCase):
    cords = ("cords", 3, wrong_cords())
    custom = ("custom", "through", wrong_customs())
    row = ("row", (("left", 0), ("right", 1)), wrong_rows(3))

    def test_functions(self):
        try_refusals(self, kinds_total, self.cords, self.custom)
        try_refusals(self, kind_number, self.cords, self.row, self.custom)
        wrong = [(value, BadNumber, VERY) for value in (
            -1, None, True, False, "0", "", [0], (0,), {}, -10 ** 30, NOTHING)]
        try_refusals(self, kind_row, self.cords, self.custom, ("number", 7, wrong))
        try_refusals(self, kinds_by_length, self.cords, self.custom, ("number", 3, wrong_numbers(0, 30)))
        for custom in CUSTOMS:
            try_one(self, kinds_by_length, {"cords": 5, "custom": custom, "number": 31}, 31, BadNumber, VERY)

    def test_objects(self):
        for value, _, _ in wrong_cords():
            for custom in ("any", None):
                with self.assertRaises(BadCords) as caught:
                    Kinds(value, custom)
                self.assertIs(caught.exception.value, value)
        for value, _, _ in wrong_customs():
            with self.assertRaises(BadCustom) as caught:
                Kinds(cords=4, custom=value)
            self.assertIs(caught.exception.word, value)
        kinds = Kinds(custom="through", cords=3)
        try_refusals(self, kinds.number_of, self.row)
        for value in (-1, None, True, False, "0", "", [0], (0,), {}, NOTHING):
            for function in (kinds.row_of, kinds.next_of, kinds.many_shortest):
                try_one(self, function, {"number": value}, value, BadNumber, VERY)
        self.assertEqual(kinds, kinds)
        self.assertNotEqual(kinds, Kinds(3, "through"))
        with self.assertRaises(BadRow):
            Kinds(4, "never").number_of((("left", 3),))


if __name__ == "__main__":
    unittest.main()
