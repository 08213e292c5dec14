"""[57]: cordrules/closing.py."""

import unittest

from cordrules.breaches import keeps
from cordrules.closing import (
    bearing_table, is_borne, nodes_behind, one_lots, same_places, sure_names)
from cordrules.errors import BadColours, BadCords, BadNumber, BadRow, BadSeen
from cordrules.filled import all_tables
from cordrules.rules import run_colours
from cordrules.sights import does_bear
from helpers import (
    some_rows, try_one, try_refusals, wrong_cords, wrong_customs, wrong_numbers, wrong_rows, wrong_table_colours)
from looking import a, b, long_seen, one_by_steps, ra, rb, some_seen, wrong_seen
from seeing import mixed, wild

AGAINST = ((2, (a,), (0, 1), (0, None)), (2, (a,), (0, 1), (1, None)))
SURE = ((2, (a,), (0, 1), (1, None)), (3, (a, b, ra), (0, 1, 0), (None, 0, None)))


def cases():
    """Names, seen things, rows that are asked."""
    for seed in range(14):
        names = 1 + seed % 4
        rule = (wild if seed % 2 else mixed)(names, seed)
        seen = some_seen(rule, 2 + seed % 6, seed)
        for cords in (2, 3):
            for row in some_rows(cords, 1, 6, seed + 1):
                yield names, seen, (cords, row, tuple((seed + place) % names for place in range(cords)))
    # What was seen without a plan is seldom borne.
    for seed in range(24):
        names = 3
        seen = tuple((2, row, (seed % 3, number % 3), (None, (seed + number) % 3))
                     for number, row in enumerate(some_rows(2, 3, 2 + seed % 2, seed + 1)))
        yield names, seen, (2, (a, a, ra), (0, seed % 3))
    yield 12, (), (5, some_rows(5, 1, 60)[0], (11, 0, 3, 3, 11))
    yield 2, AGAINST, (2, (), (0, 1))
    yield 2, SURE, (2, (a, a), (0, 1))
    yield 2, ((2, (), (0, 1), (1, 0)),), (2, (), (1, 1))
    yield 3, long_seen(3, 1, 60), (2, (a,) * 60, (0, 0))


class TestClosing(unittest.TestCase):
    def test_beside_the_steps(self):
        counts = {True: 0, False: 0}
        for names, seen, asked in cases():
            for custom in ("any", "back"):
                one, _, _ = one_by_steps(names, custom, seen)
                self.assertEqual(one_lots(names, custom, seen), tuple(sorted({tuple(sorted(lot)) for lot in one})))
                borne = all(one[name] & set(range(names)) == {name} for name in range(names))
                self.assertIs(is_borne(names, custom, seen), borne)
                counts[borne] += 1
                one, ends, _ = one_by_steps(names, custom, seen, [asked])
                self.assertEqual(nodes_behind(names, custom, seen, *asked), ends[-1])
                if not borne:
                    for function in (sure_names, same_places):
                        try_one(self, function, dict(zip(("names", "custom", "seen", "cords", "row", "colours"),
                                                         (names, custom, seen) + asked)), seen, BadSeen, "against")
                    self.assertIsNone(bearing_table(names, custom, seen))
                    continue
                sure = [sorted(one[node] & set(range(names))) for node in ends[-1]]
                self.assertEqual(sure_names(names, custom, seen, *asked), tuple(
                    lot[0] if lot else None for lot in sure))
                lots = {tuple(place for place, far in enumerate(ends[-1]) if far in one[node]) for node in ends[-1]}
                self.assertEqual(same_places(names, custom, seen, *asked), tuple(sorted(lots)))
        self.assertGreater(min(counts.values()), 9)

    def test_bearing(self):
        for names, seen, _ in cases():
            for custom in ("any", "back"):
                rule = bearing_table(names, custom, seen)
                if rule is None:
                    continue
                self.assertTrue(keeps(rule, custom))
                self.assertTrue(does_bear(rule, seen))
                lots = one_lots(names, custom, seen)
                self.assertEqual(len(rule[1]), len(lots))
                # The colours are the lots: each crossing does what its nodes tell.
                _, _, met = one_by_steps(names, custom, seen)
                colour = {node: number for number, lot in enumerate(lots) for node in lot}
                told = {}
                for side, over, under, result in met:
                    square = rule[1] if side == "left" else rule[2]
                    self.assertEqual(square[colour[over]][colour[under]], colour[result])
                    told[(side, colour[over], colour[under])] = True
                if custom == "any":
                    for number, side in ((1, "left"), (2, "right")):
                        for over, line in enumerate(rule[number]):
                            for under, result in enumerate(line):
                                self.assertTrue((side, over, under) in told or result == 0)
        self.assertEqual(bearing_table(2, "any", ((2, (a,), (0, 1), (1, None)),)),
                         ("table", ((0, 1), (0, 0)), ((0, 0), (0, 0))))
        self.assertEqual(bearing_table(2, "back", ((2, (a,), (0, 0), (None, None)),)),
                         ("table", ((2, 0, 1), (0, 1, 2), (0, 1, 2)), ((1, 2, 0), (0, 1, 2), (0, 1, 2))))
        self.assertEqual(bearing_table(1, "any", ()), ("table", ((0,),), ((0,),)))

    def test_no_small_rule_shows_it_otherwise(self):
        seen = SURE
        for custom in ("any", "back"):
            rules = [rule for rule in all_tables(2, custom) if does_bear(rule, seen)]
            for row in some_rows(2, 12, 3) + [(a,), (a, a)]:
                sure = sure_names(2, custom, seen, 2, row, (0, 1))
                for rule in rules:
                    behind = run_colours(2, row, rule, (0, 1))
                    self.assertTrue(all(name in (None, colour) for name, colour in zip(sure, behind)))
        self.assertEqual(sure_names(2, "any", SURE, 2, (a, a), (0, 1)), (None, 1))
        self.assertEqual(sure_names(2, "any", SURE, 2, (a,), (0, 1)), (1, 0))

    def test_examples(self):
        self.assertEqual(nodes_behind(2, "any", (), 2, (), (1, 0)), (1, 0))
        self.assertEqual(nodes_behind(2, "any", (), 3, (a, b, ra), (1, 0, 0)), (3, 4, 1))
        self.assertEqual(nodes_behind(2, "back", AGAINST, 2, (ra,), (1, 0)), (0, 4))
        self.assertEqual(one_lots(2, "any", ()), ((0,), (1,)))
        self.assertEqual(one_lots(2, "any", AGAINST), ((0, 1, 2, 3),))
        taken = ((2, (a, ra), (0, 1), (None, None)),)
        self.assertEqual(one_lots(2, "back", taken), ((0,), (1, 3), (2,)))
        self.assertEqual(one_lots(2, "any", taken), ((0,), (1,), (2,), (3,)))
        self.assertEqual(same_places(2, "any", (), 4, (a, ("left", 2)), (0, 1, 0, 1)), ((0, 2), (1, 3)))
        self.assertEqual(same_places(3, "any", (), 3, (), (0, 1, 2)), ((0,), (1,), (2,)))


class TestRefusals(unittest.TestCase):
    def test_arguments(self):
        names, customs = ("names", 2, wrong_numbers(1, 12)), ("custom", "back", wrong_customs(("any", "back")))
        seen = ("seen", SURE[:1], wrong_seen(2) + [(long_seen(2, 2, 31)[:2], BadSeen, "many")])
        asked = [("cords", 2, wrong_cords()), ("row", (a,), wrong_rows(2)),
                 ("colours", (0, 1), wrong_table_colours(2, 2))]
        for function in (one_lots, is_borne, bearing_table):
            try_refusals(self, function, names, customs, seen)
        for function in (nodes_behind, sure_names, same_places):
            try_refusals(self, function, names, customs, seen, *asked)

    def test_limits(self):
        for names in (1, 12):
            self.assertEqual(one_lots(names, "any", ()), tuple((name,) for name in range(names)))
        just = long_seen(2, 12, 5)
        self.assertTrue(is_borne(2, "any", just))
        for seen in (long_seen(2, 11, 5) + long_seen(2, 1, 6), long_seen(2, 2, 60)):
            for function in (is_borne, one_lots, bearing_table):
                try_one(self, function, {"names": 2, "custom": "any", "seen": seen}, 0, BadSeen, "many")
            for function in (nodes_behind, sure_names, same_places):
                good = {"names": 2, "custom": "any", "seen": seen, "cords": None, "row": None, "colours": None}
                try_one(self, function, good, 0, BadSeen, "many")
        many = long_seen(2, 2, 31)
        try_one(self, is_borne, {"names": 2, "custom": "any", "seen": many + (None,)}, 0, BadSeen, 2)
        try_one(self, is_borne, {"names": 13, "custom": "any", "seen": many}, 0, BadNumber, 13)

    def test_against_is_behind_all(self):
        good = {"names": 2, "custom": "any", "seen": AGAINST, "cords": 2, "row": (a,), "colours": (0, 1)}
        for function in (sure_names, same_places):
            try_one(self, function, good, 0, BadSeen, "against")
            try_one(self, function, {**good, "cords": 6}, 6, BadCords, 6)
            try_one(self, function, {**good, "row": (rb,)}, 0, BadRow, 0)
            try_one(self, function, {**good, "colours": (0, 2)}, 0, BadColours, 1)
        self.assertEqual(nodes_behind(**good), (4, 0))


if __name__ == "__main__":
    unittest.main()
