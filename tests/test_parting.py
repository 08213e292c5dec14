"""[31] to [33]: cordrules/parting.py."""

import unittest
from itertools import combinations, product

from cordrules.breaches import keeps
from cordrules.errors import BadBook, BadPaper, BadRow, TooGreat
from cordrules.filled import all_tables
from cordrules.likeness import are_alike, customs, forms_of
from cordrules.parting import check_parting, part_rows, rule_for, told_apart
from cordrules.rows import order_of
from cordrules.rules import need_rule, run_colours
from helpers import (
    FAR_LONG, LONG, NOTHING, rows_of, rows_to, some_rows, try_great, try_refusals, wrong_cords, wrong_customs,
    wrong_rows, wrong_table_colours, wrong_told_rules)

ROW = (("left", 0), ("right", 1), ("left", 1))
FAR_ROW = (("left", 0), ("left", 1), ("left", 1))
STILL = ("table", ((0, 1), (0, 1)), ((0, 1), (0, 1)))


class TestPartRows(unittest.TestCase):
    def check_pair(self, cords, row, other, custom):
        paper = part_rows(cords, row, other, custom)
        if are_alike(cords, row, other, custom):
            self.assertIsNone(paper)
            return
        self.assertIs(check_parting(cords, row, other, custom, paper), paper)
        rule, colours, place = paper
        self.assertIs(need_rule(rule), rule)
        self.assertTrue(keeps(rule, custom))
        one, far = (run_colours(cords, told, rule, colours)[place] for told in (row, other))
        self.assertNotEqual(one, far)
        if rule[0] == "acts":
            # The words themselves are what the number 0 comes to.
            self.assertNotEqual(one[0][0], far[0][0])

    def test_small_rows(self):
        for custom in customs():
            for cords, most in ((2, 3), (3, 2), (5, 1)):
                for row, other in product(rows_to(cords, most), repeat=2):
                    self.check_pair(cords, row, other, custom)
            for row, other in combinations([row for row in rows_of(3, 4) if order_of(3, row) == (0, 1, 2)], 2):
                self.check_pair(3, row, other, custom)

    def test_longer_rows(self):
        for custom in customs():
            for cords, length in ((2, 12), (3, 9), (4, 8), (5, 10)):
                rows = some_rows(cords, 6, length) + [row[:-2] + row[:1] * 2 for row in some_rows(cords, 3, length)]
                for row, other in combinations(rows, 2):
                    self.check_pair(cords, row, other, custom)

    def test_sixty_crossings(self):
        row = (("left", 0),) * 60
        for other in (row[:58] + (("right", 0),) * 2, (("right", 0),) * 60, (), row[:59]):
            for custom in customs():
                self.check_pair(2, row, other, custom)
        for custom in ("any", "back", "began", "twice", "never"):
            self.check_pair(3, LONG, FAR_LONG, custom)
            self.check_pair(3, LONG, LONG[:-1] + (("left", 1),), custom)
            self.check_pair(3, LONG, LONG, custom)

    def test_long_rows(self):
        for rows in ((LONG, ()), ((), LONG), (LONG, LONG), (LONG, (("left", 0),))):
            try_great(self, 2000, part_rows, 3, *rows, "through")

    def test_two_thousand_and_more_numbers(self):
        # Words as long as they may be, parted by as many numbers as they have letters together, and one.
        most = max(many for many in range(2, 31) if not is_long(3, LONG[:2 * many]))
        row = LONG[:2 * most]
        other = row[:-2] + (("right", 0), ("left", 1))
        self.check_pair(3, row, row[:-2] + row[:2][::-1], "through")
        self.check_pair(3, row, other, "through")


def is_long(cords, row):
    try:
        forms_of(cords, row, "through")
    except TooGreat:
        return True
    return False


class TestRuleFor(unittest.TestCase):
    def check_rows(self, cords, rows, custom):
        rule, colours = rule_for(cords, rows, custom)
        self.assertIs(need_rule(rule), rule)
        self.assertTrue(keeps(rule, custom))
        expected = []
        for row in rows:
            expected.append([are_alike(cords, row, other, custom) for other in rows].index(True))
        self.assertEqual(told_apart(cords, rows, rule, colours), tuple(expected))

    def test_six_rows(self):
        for custom in customs():
            for cords, length in ((2, 5), (3, 5), (4, 4), (5, 5)):
                rows = some_rows(cords, 24, length, 5)
                for at in range(0, 24, 6):
                    self.check_rows(cords, tuple(rows[at:at + 6]), custom)
            self.check_rows(2, tuple(rows_to(2, 2))[:6], custom)
            self.check_rows(3, ((),), custom)
            self.check_rows(2, ((), (("left", 0), ("right", 0)), (), (("left", 0),) * 4, (("left", 0),) * 2), custom)

    def test_six_rows_of_one_order(self):
        rows = [row for row in rows_of(3, 4) if order_of(3, row) == (0, 1, 2)]
        for custom in customs():
            for at in range(0, len(rows) - 6, 6):
                self.check_rows(3, tuple(rows[at:at + 6]), custom)
        # All eight kinds of this order by "twice", but for two.
        a, b = ("left", 0), ("left", 1)
        kinds = ((), (a, a), (b, b), (a, b, b, ("right", 0)), (a, a, b, b), (a, a, a, b, b, ("right", 0)))
        for custom in ("through", "began", "twice"):
            self.check_rows(3, kinds, custom)

    def test_sixty_crossings(self):
        for custom in ("began", "twice", "never"):
            for cords in (2, 3, 4, 5):
                rows = some_rows(cords, 12, 60, 3)
                self.check_rows(cords, tuple(rows[:6]), custom)
                self.check_rows(cords, tuple(row[:50] + row[:10] for row in rows[6:]), custom)
        row = (("left", 0),) * 60
        many = (row, row[:58], row[:56], row[:54], row[:52], row[:52] + (("right", 0),) * 8)
        for custom in ("through", "began", "twice", "never"):
            self.check_rows(2, many, custom)

    def test_too_great(self):
        for custom in ("any", "back"):
            self.check_rows(2, ((("left", 0),) * 60,) * 6, custom)
            rows = tuple((("left", 0),) * many + (("right", 0),) * (60 - many) for many in (10, 20, 30))
            if custom == "any":
                self.check_rows(2, rows[:2], custom)
        rows = tuple(some_rows(5, 6, 60))
        try_great(self, 200, rule_for, 5, rows, "any")
        try_great(self, 200, rule_for, 5, rows, "back")
        try_great(self, 2000, rule_for, 3, (LONG,), "through")
        try_great(self, 2000, rule_for, 3, ((), LONG), "through")

    def test_two_hundred_parts(self):
        a, b, c = ("left", 0), ("left", 1), ("right", 1)
        rows = tuple((head + (a, c) * 30)[:60] for head in ((), (a,), (b,), (c, c)))
        for custom in ("any", "back"):
            counts = [unlike_parts(3, rows[:3] + (rows[3][:many],), custom) for many in range(60)]
            last = counts.index(200)
            rule, _ = rule_for(3, rows[:3] + (rows[3][:last],), custom)
            self.assertEqual(len(rule[1]), 200)
            self.check_rows(3, rows[:3] + (rows[3][:last],), custom)
            further = next(many for many in range(last, 60) if counts[many] > 200)
            try_great(self, 200, rule_for, 3, rows[:3] + (rows[3][:further],), custom)

    def test_just_as_many_ends(self):
        row = (("left", 0), ("right", 1), ("left", 0), ("left", 0), ("right", 1), ("left", 0)) + (
            ("right", 0),) * 6 + (("left", 0), ("right", 0), ("right", 1))
        rows = (LONG[:15], FAR_LONG[:15], LONG[:14], row)
        self.assertEqual(many_ends(3, rows), 4001)
        self.check_rows(3, rows, "through")
        self.check_rows(3, rows + ((), row), "through")
        self.assertEqual(len(rule_for(3, rows, "through")[0][1][0]), 4001)
        further = rows[:3] + (row + (("right", 1),),)
        self.assertGreater(many_ends(3, further), 4001)
        try_great(self, 4001, rule_for, 3, further, "through")
        # Also where the rows are alike.
        told = "l0 r1 l2 l2 l2 r0 r0 l1 l1 l0 l0 r1 l3 r2 l3 r0 r2 r3 r3 l0 l3 r0 l2 r3 r1 r1 r1 r3 r0 r2"
        great = tuple(({"l": "left", "r": "right"}[word[0]], int(word[1])) for word in told.split())
        self.assertEqual(many_ends(5, (great,)), 4116)
        try_great(self, 4001, rule_for, 5, (great,), "through")
        try_great(self, 4001, rule_for, 5, (great, great), "through")
        self.assertIsNone(part_rows(5, great, great, "through"))


def many_ends(cords, rows):
    """How many unlike ends the words of the forms of the rows have."""
    found = set()
    for row in rows:
        for word, _ in forms_of(cords, row, "through"):
            found |= {word[at:] for at in range(len(word) + 1)}
    return len(found)


def unlike_parts(cords, rows, custom):
    """How many unlike parts the forms of the rows have, each part with a number."""
    numbers = {}

    def behind(word, over, under):
        made = list(numbers)[under]
        if custom == "back" and made[0] not in ("cord", word) and made[1] == over:
            return made[2]
        return numbers.setdefault((word, over, under), len(numbers))

    found = set()
    for row in rows:
        forms = [numbers.setdefault(("cord", cord), len(numbers)) for cord in range(cords)]
        for side, place in row:
            low, high = forms[place], forms[place + 1]
            if side == "left":
                forms[place:place + 2] = behind("on", low, high), low
            else:
                forms[place:place + 2] = high, behind("off", high, low)
        found |= set(forms)
    while True:
        inner = {part for number in found if list(numbers)[number][0] != "cord" for part in list(numbers)[number][1:]}
        if inner <= found:
            return len(found)
        found |= inner


class TestFacts(unittest.TestCase):
    def test_acts_on_one_and_two_numbers(self):
        for row, other in list(combinations(rows_to(3, 3), 2))[::7]:
            same = order_of(3, row) == order_of(3, other)
            starts = tuple(((0,), letter) for letter in range(3))
            one = ("acts", ((0,),) * 3)
            self.assertEqual(run_colours(3, row, one, starts) == run_colours(3, other, one, starts), same)
            starts = tuple(((0, 1), letter) for letter in range(3))
            parted = False
            for acts in product(((0, 1), (1, 0)), repeat=3):
                rule = ("acts", acts)
                parted = parted or run_colours(3, row, rule, starts) != run_colours(3, other, rule, starts)
            self.assertEqual(parted, not are_alike(3, row, other, "twice"))

    def test_told_apart(self):
        rows = ((), (("left", 0),), (("left", 0), ("left", 0)), (("left", 0), ("right", 0)), (("right", 0),) * 3)
        self.assertEqual(told_apart(2, rows, STILL, (0, 1)), (0, 1, 0, 0, 1))
        self.assertEqual(told_apart(2, rows, STILL, (1, 1)), (0, 0, 0, 0, 0))
        self.assertEqual(told_apart(2, rows, ("turns", 4, (1, 2)), ((0, 0), (0, 1))), (0, 1, 2, 0, 4))
        self.assertEqual(told_apart(3, (LONG, LONG, FAR_LONG), STILL, (0, 0, 1))[:2], (0, 0))
        self.assertEqual(told_apart(2, ((("left", 0),),), STILL, (0, 1)), (0,))

    def test_papers_by_small_tables(self):
        for custom in customs()[1:]:
            for table in all_tables(3, custom)[::5]:
                for row, other in list(combinations(rows_to(2, 3), 2))[::4]:
                    for colours in product(range(3), repeat=2):
                        one, far = run_colours(2, row, table, colours), run_colours(2, other, table, colours)
                        for place in (0, 1):
                            paper = (table, colours, place)
                            if one[place] != far[place]:
                                self.assertIs(check_parting(2, row, other, custom, paper), paper)
                            else:
                                self.assertEqual(refused(2, row, other, custom, paper), "same")


def refused(*arguments):
    try:
        check_parting(*arguments)
    except BadPaper as caught:
        return caught.word
    return None


class TestWrongOnes(unittest.TestCase):
    cords = ("cords", 3, wrong_cords())
    row = ("row", ROW, wrong_rows(3))
    other = ("other", FAR_ROW, wrong_rows(3))
    custom = ("custom", "through", wrong_customs())

    def test_check_parting(self):
        rule = ("turns", 5, (1, 2, 3))
        colours = ((0, 0), (0, 1), (0, 2))
        good = next((rule, colours, place) for place in range(3)
                    if run_colours(3, ROW, rule, colours)[place] != run_colours(3, FAR_ROW, rule, colours)[place])
        same = next(place for place in range(3)
                    if run_colours(3, ROW, rule, colours)[place] == run_colours(3, FAR_ROW, rule, colours)[place])
        wrong = [(value, BadPaper, "form") for value in (
            None, True, 0, "", "abc", (), (rule, colours), good + (0,), [rule, colours, 0], {}, NOTHING)]
        wrong += [((value, colours, 0), BadPaper, "rule") for value, _, _ in wrong_told_rules()]
        wrong += [((value, None, None), BadPaper, "rule") for value, _, _ in wrong_told_rules()[::9]]
        back_alone = next(table for table in all_tables(3, "back") if not keeps(table, "through"))
        any_alone = ("table", ((0, 0), (0, 0)), ((0, 0), (0, 0)))
        wrong += [((value, colours, 0), BadPaper, "custom") for value in (back_alone, any_alone)]
        wrong += [((value, None, None), BadPaper, "custom") for value in (back_alone, any_alone)]
        for value in [None, True, 0, "", [], {}, NOTHING, (), colours[:2], colours + ((0, 0),), list(colours),
                      ((0, 0), (0, 1), (0, 3)), ((0, 0), (5, 1), (0, 2)), ((0, 0), (0, True), (0, 2)), (0, 1, 2),
                      ((0, 0), (0, 1), None), ((0, 0), [0, 1], (0, 2))]:
            wrong += [((rule, value, 0), BadPaper, "colours"), ((rule, value, None), BadPaper, "colours")]
        wrong += [((rule, colours, value), BadPaper, "place") for value in (
            None, True, False, 3, -1, "0", (), [0], {}, 10 ** 30, NOTHING)]
        wrong += [((rule, colours, same), BadPaper, "same")]
        try_refusals(
            self, check_parting, self.cords, self.row, self.other, self.custom, ("paper", good, wrong))

    def test_kept_customs(self):
        paper = part_rows(2, (("left", 0),) * 2, (), "began")
        for custom in ("any", "back", "through", "began"):
            self.assertIs(check_parting(2, (("left", 0),) * 2, (), custom, paper), paper)
        self.assertEqual(refused(2, (("left", 0),) * 2, (), "twice", paper), "custom")
        self.assertEqual(refused(2, (), (), "never", (STILL, (0, 1), 0)), "same")
        self.assertEqual(refused(3, LONG, LONG, "through", (STILL, (0, 1, 0), 0)), "same")
        paper = part_rows(3, LONG, LONG[:-1], "never")
        self.assertIs(check_parting(3, LONG, LONG[:-1], "through", paper), paper)

    def test_part_rows(self):
        row, other, custom = self.row, self.other, self.custom
        try_refusals(self, part_rows, self.cords, row, other, custom)

    def wrong_many_rows(self):
        wrong = [(value, BadBook, None) for value in (
            None, True, 0, "", [], [ROW], {}, NOTHING, (), (ROW,) * 7, (None,) * 7)]
        for value, error, number in wrong_rows(3):
            wrong.append(((value,), error, number))
            wrong.append(((ROW, (), value, None), error, number))
        return wrong

    def test_many_rows(self):
        many = ("many_rows", (ROW, FAR_ROW), self.wrong_many_rows())
        try_refusals(self, rule_for, self.cords, many, self.custom)
        table = ("table", ((0, 1, 2),) * 3, ((0, 1, 2),) * 3)
        try_refusals(
            self, told_apart, self.cords, many, ("rule", table, wrong_told_rules()),
            ("colours", (0, 1, 2), wrong_table_colours(3, 3)))
        with self.assertRaises(BadRow):
            rule_for(3, (LONG, None), "other")


if __name__ == "__main__":
    unittest.main()
