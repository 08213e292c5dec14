"""[56]: cordrules/sights.py."""

import unittest

from cordrules.errors import BadColours, BadCords, BadRow, BadSeen
from cordrules.filled import all_tables
from cordrules.rules import colours_of, run_colours
from cordrules.sights import (
    does_bear, first_against, fitting, needless, need_seen, possible_sights, sure_colours)
from helpers import (
    CUSTOMS, rows_to, some_rows, try_great, try_one, try_refusals, wrong_cords, wrong_customs, wrong_numbers,
    wrong_rows, wrong_table_colours, wrong_told_rules)
from looking import (
    EMPTY, PART, a, b, does_fit, gapped_from, gaps, ra, rb, shown_by, some_seen, wrong_gapped, wrong_seen)

THING = (2, (a, ra), (0, 1), (None, 1))


def cases():
    """Gapped tables, customs and seen things."""
    for number, rule in enumerate(list(all_tables(2, "any"))[::37] + list(all_tables(3, "back"))[::53]):
        for custom in CUSTOMS[::2] if number % 2 else CUSTOMS[1::2]:
            if len(rule[1]) == 3 and custom == "any":
                continue
            for many in (0, 1, 3, 6):
                yield gapped_from(rule, number), custom, some_seen(rule, many, number)
                yield gaps(len(rule[1])), custom, some_seen(rule, many, number + 1)
    for rule in all_tables(2, "back"):
        yield EMPTY, "back", some_seen(rule, 12)
        yield EMPTY, "any", some_seen(rule, 4) + (shown_by(rule, 2, (a,), (0, 1)),) * 2
    yield gaps(1), "any", some_seen(all_tables(1, "any")[0], 3)
    # What no table shows: one row that comes to two colours.
    yield EMPTY, "any", ((2, (a,), (0, 1), (None, 0)), (2, (a,), (0, 1), (None, 1)))
    yield EMPTY, "any", ((2, (a,), (0, 1), (0, 0)), (2, (a,), (0, 1), (1, 1)), (2, (), (0, 1), (0, 1)))
    yield EMPTY, "back", ((2, (), (0, 1), (1, None)),)


def fits(gapped, custom, seen):
    return tuple(rule for rule in all_tables(len(gapped[1]), custom) if does_fit(rule, gapped, seen))


class TestSights(unittest.TestCase):
    def test_fitting(self):
        for gapped, custom, seen in cases():
            expected = fits(gapped, custom, seen)
            self.assertEqual(fitting(gapped, custom, seen), expected)
            idle = [number for number in range(len(seen))
                    if fits(gapped, custom, seen[:number] + seen[number + 1:]) == expected]
            self.assertEqual(needless(gapped, custom, seen), tuple(idle))
            for fewer in (seen[1:], seen[:-1]):
                self.assertLessEqual(set(expected), set(fitting(gapped, custom, fewer)))
        self.assertEqual(len(fitting(EMPTY, "any", ())), 256)
        self.assertEqual(fitting(EMPTY, "any", ((2, (a,), (0, 1), (None, 0)), (2, (a,), (0, 1), (None, 1)))), ())

    def test_sure(self):
        for gapped, custom, seen in list(cases())[::3]:
            tables = fits(gapped, custom, seen)
            many = len(gapped[1])
            for cords in (2, 3, 5):
                for row in some_rows(cords, 1, 5, 5) + rows_to(cords, 1)[:2]:
                    colours = tuple(place % many for place in range(cords))
                    sights = sorted({run_colours(cords, row, rule, colours) for rule in tables})
                    found = possible_sights(gapped, custom, seen, cords, row, colours)
                    self.assertEqual(found, tuple(sights))
                    sure = tuple(place[0] if len(set(place)) == 1 else None for place in zip(*sights))
                    self.assertEqual(sure_colours(gapped, custom, seen, cords, row, colours), sure or None)
        self.assertEqual(sure_colours(EMPTY, "back", (), 2, (a, ra), (0, 1)), (0, 1))
        self.assertEqual(sure_colours(EMPTY, "any", (), 2, (a, ra), (0, 1)), (0, None))
        self.assertIsNone(sure_colours(EMPTY, "back", ((2, (), (0, 1), (1, None)),), 2, (), (0, 1)))

    def test_bearing(self):
        rules = [("turns", 5, (1, 3)), ("acts", ((1, 2, 0), (1, 0, 2))), all_tables(2, "any")[77], ("turns", 1, (0,))]
        for rule in rules:
            listed = colours_of(rule)
            for number, row in enumerate(some_rows(3, 6, 7)):
                colours = tuple(listed[(number * 3 + place) % len(listed)] for place in range(3))
                behind = run_colours(3, row, rule, colours)
                good = (3, row, colours, behind)
                none = (3, row, colours, (None,) * 3)
                part = (3, row, colours, (None, behind[1], None))
                self.assertIsNone(first_against(rule, (good, none, part)))
                self.assertIs(does_bear(rule, (good, none, part)), True)
                for place in range(3):
                    for other in listed[:5]:
                        bent = (3, row, colours, behind[:place] + (other,) + behind[place + 1:])
                        expected = None if other == behind[place] else 2
                        self.assertEqual(first_against(rule, (good, none, bent, bent)), expected)
                        self.assertIs(does_bear(rule, (good, none, bent)), expected is None)
            self.assertIsNone(first_against(rule, ()))

    def test_need_seen(self):
        for many in (1, 2, 3, 200):
            seen = ((2, (a,) * 60, (many - 1, 0), (None, many - 1)),) * 12
            self.assertIs(need_seen(many, seen), seen)
            wrong = ((2, (), (0, 0), (None, many)),)
            try_one(self, need_seen, {"many": many, "seen": wrong}, wrong, BadSeen, 0)
        self.assertEqual(need_seen(3, ()), ())
        five = (5, (b, ra), (2, 1, 0, 1, 2), (None, 2, 2, 0, None))
        self.assertEqual(need_seen(3, (five,)), (five,))


class TestRefusals(unittest.TestCase):
    def test_arguments(self):
        gapped, customs = ("gapped", PART, wrong_gapped()), ("custom", "back", wrong_customs())
        seen = ("seen", (THING,), wrong_seen(2))
        try_refusals(self, need_seen, ("many", 2, wrong_numbers(1, 200)), seen)
        try_refusals(self, fitting, gapped, customs, seen)
        try_refusals(self, needless, gapped, customs, seen)
        asked = [("cords", 2, wrong_cords()), ("row", (a,), wrong_rows(2)),
                 ("colours", (0, 1), wrong_table_colours(2, 2))]
        try_refusals(self, sure_colours, gapped, customs, seen, *asked)
        try_refusals(self, possible_sights, gapped, customs, seen, *asked)
        for function in (first_against, does_bear):
            try_refusals(self, function, ("rule", ("table", ((0, 1), (1, 0)), ((0, 1), (1, 0))), wrong_told_rules()),
                         seen)

    def test_colours_of_other_rules(self):
        rule = ("turns", 3, (1, 2))
        good = (2, (a,), ((0, 1), (2, 0)), (None, (0, 1)))
        self.assertIs(does_bear(rule, (good,)), True)
        self.assertIs(does_bear(rule, (good, good[:3] + (((1, 1), None),))), False)
        for wrong in ((0, 1), ((0, 1), 0), ((0, 2), (0, 0)), ((3, 0), (0, 0)), ((0, True), (0, 0)), (None, (0, 0))):
            try_one(self, first_against, {"rule": rule, "seen": (good, (2, (a,), wrong, (None, None)))}, 0, BadSeen, 1)
            if None not in wrong:
                try_one(self, does_bear, {"rule": rule, "seen": (good, (2, (), good[2], wrong))}, 0, BadSeen, 1)

    def test_three_colours(self):
        full = ("table", ((0, 1, 2),) * 3, ((0, 1, 2),) * 3)
        for gapped in (gaps(3), full):
            try_great(self, 2, fitting, gapped, "any", ())
            try_great(self, 2, needless, gapped, "any", (THING,))
            try_great(self, 2, sure_colours, gapped, "any", (), 2, (), (0, 2))
            try_great(self, 2, possible_sights, gapped, "any", (), 2, (), (0, 2))
            for function in (sure_colours, possible_sights):
                good = {"gapped": gapped, "custom": "any", "seen": (), "cords": 2, "row": (), "colours": (0, 2)}
                try_one(self, function, {**good, "colours": (0, 3)}, 3, BadColours, 1)
                try_one(self, function, {**good, "row": (rb,)}, 3, BadRow, 0)
                try_one(self, function, {**good, "cords": 1}, 1, BadCords, 1)
                try_one(self, function, {**good, "seen": (None,)}, 1, BadSeen, 0)
        self.assertEqual(len(fitting(gaps(3), "back", ())), 216)


if __name__ == "__main__":
    unittest.main()
