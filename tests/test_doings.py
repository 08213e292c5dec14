"""[50], [51]: cordrules/doings.py."""

import unittest
from math import lcm

from cordrules.breaches import keeps
from cordrules.doings import (
    again_and_again, check_doing, doing_of, doing_paper, kinds_over, least_over, row_of_doing, what_parts)
from cordrules.errors import BadColours, BadPaper, BadRow, BadRule, TooGreat
from cordrules.likeness import are_alike
from helpers import (
    CUSTOMS, crossings, rows_to, some_rows, try_great, try_one, try_refusals, wrong_cords, wrong_rows, wrong_tables)
from seeing import (
    COPY, JUST, MARKS, ONE_MORE, colourings, done, few_tables, kinds_by_rows, mixed, rows_that_are_none, still,
    try_papers, turning, wild, wrong_doings)

a, ra = ("left", 0), ("right", 0)


class TestDoings(unittest.TestCase):
    def test_beside_the_words(self):
        for cords, most in ((2, 4), (3, 2), (4, 1), (5, 1)):
            for rule in few_tables()[::1 if cords < 4 else 5]:
                if len(colourings(cords, rule)) > 256:
                    continue
                rows = rows_to(cords, most)[::2]
                for row in rows:
                    self.assertEqual(doing_of(cords, row, rule), done(cords, row, rule))
                for row, other in zip(rows, rows[1:] + rows[:1]):
                    one, far = doing_of(cords, row, rule), doing_of(cords, other, rule)
                    self.assertEqual(doing_of(cords, row + other, rule), tuple(far[number] for number in one))
                    unlike = [colours for colours, x, y in zip(colourings(cords, rule), one, far) if x != y]
                    self.assertEqual(what_parts(cords, row, other, rule), unlike[0] if unlike else None)
        self.assertEqual(doing_of(2, (a,), COPY), (0, 0, 3, 3))
        self.assertEqual(what_parts(2, (a,), (), COPY), (0, 1))
        self.assertIsNone(what_parts(2, (a, a), (a,), COPY))
        self.assertEqual(doing_of(3, (), still(6)), tuple(range(216)))

    def test_facts(self):
        for rule in few_tables():
            for row in some_rows(3, 4, 60):
                doing = doing_of(3, row, rule)
                if keeps(rule, "back"):
                    self.assertEqual(sorted(doing), list(range(len(doing))))
            for row in rows_to(3, 2):
                for other in rows_to(3, 2)[::3]:
                    for custom in CUSTOMS:
                        if keeps(rule, custom) and are_alike(3, row, other, custom):
                            self.assertEqual(doing_of(3, row, rule), doing_of(3, other, rule))

    def test_refusals(self):
        row = wrong_rows(2)
        try_refusals(self, doing_of, ("cords", 2, wrong_cords()), ("row", (a,), row), ("rule", MARKS, wrong_tables()))
        try_refusals(self, what_parts, ("cords", 2, wrong_cords()), ("row", (a,), row), ("other", (), row),
                     ("rule", MARKS, wrong_tables()))
        great = still(17)
        for cords, many in ((2, 16), (3, 6), (4, 4), (5, 3)):
            self.assertEqual(len(doing_of(cords, (a,), still(many))), many ** cords)
            self.assertEqual(kinds_over(cords, still(1)), ((),))
            for function, behind in ((doing_of, ((),)), (what_parts, ((), ())), (again_and_again, ((),)),
                                     (least_over, ((),)), (kinds_over, ())):
                try_great(self, 256, function, cords, *behind, still(many + 1))
            for function in (row_of_doing, doing_paper):
                try_great(self, 256, function, cords, still(many + 1), None)
            try_great(self, 256, check_doing, cords, still(many + 1), None, None)
        for function, arguments in ((doing_of, {}), (again_and_again, {}), (least_over, {}), (what_parts,
            {"other": ()})):
            try_one(self, function, {"cords": 2, "row": (None,), **arguments, "rule": great}, None, BadRow, 0)


class TestKinds(unittest.TestCase):
    def test_beside_all_rows(self):
        for cords, most in ((2, 5), (3, 3), (4, 2)):
            for rule in few_tables()[::1 if cords == 2 else 6]:
                first = kinds_by_rows(cords, rule, most)
                try:
                    rows = kinds_over(cords, rule)
                except TooGreat:
                    continue
                self.assertEqual([row for row in rows if len(row) <= most], list(first.values()))
                self.assertEqual(list(rows), sorted(rows, key=lambda row: (len(row), row)))
                for row in rows:
                    self.assertTrue(row == () or row[:-1] in rows)
                for row in some_rows(cords, 3, 9):
                    self.assertIn(least_over(cords, row, rule), rows)
                    self.assertEqual(done(cords, least_over(cords, row, rule), rule), done(cords, row, rule))
                for row in rows_to(cords, most)[::7]:
                    self.assertEqual(least_over(cords, row, rule), first[done(cords, row, rule)])
                for doing, row in first.items():
                    self.assertEqual(row_of_doing(cords, rule, doing), row)

    def test_limits(self):
        # By one table there are 2,000 kinds, by the other one a single one more.
        rows = kinds_over(*JUST)
        self.assertEqual(len(rows), 2000)
        for row in rows[::199] + rows[-1:]:
            if len(row) <= 60:
                self.assertEqual(least_over(JUST[0], row, JUST[1]), row)
            self.assertEqual(row_of_doing(*JUST, done(JUST[0], row, JUST[1])), row)
        none = none_of(*JUST)
        self.assertIsNone(row_of_doing(*JUST, none))
        paper = doing_paper(*JUST, none)
        self.assertEqual(paper, ("closed", rows))
        self.assertIs(check_doing(*JUST, none, paper), False)
        try_great(self, 2000, kinds_over, *ONE_MORE)
        none = none_of(*ONE_MORE)
        try_great(self, 2000, row_of_doing, *ONE_MORE, none)
        try_great(self, 2000, doing_paper, *ONE_MORE, none)
        last = last_doing(*ONE_MORE)
        self.assertEqual(row_of_doing(*ONE_MORE, last[1][1]), last[1][0])
        try_great(self, 2000, row_of_doing, *ONE_MORE, last[0][1])
        try_great(self, 2000, doing_paper, *ONE_MORE, last[0][1])
        self.assertEqual(doing_paper(*ONE_MORE, last[1][1]), ("row", last[1][0]))
        if len(last[0][0]) <= 60:
            try_great(self, 2000, least_over, ONE_MORE[0], last[0][0], ONE_MORE[1])
            self.assertEqual(least_over(ONE_MORE[0], last[1][0], ONE_MORE[1]), last[1][0])

    def test_many_kinds(self):
        try_great(self, 2000, kinds_over, 4, wild(4))
        self.assertEqual(least_over(4, (a, ra, a), wild(4)), (a, ra, a))
        try_great(self, 2000, least_over, 4, some_rows(4, 1, 60)[0], mixed(4))
        self.assertEqual(row_of_doing(4, mixed(4), doing_of(4, (ra, a), mixed(4))), ())

    def test_refusals(self):
        try_refusals(self, kinds_over, ("cords", 2, wrong_cords()), ("rule", MARKS, wrong_tables()))
        try_refusals(self, least_over, ("cords", 2, wrong_cords()), ("row", (a, a, a), wrong_rows(2)),
                     ("rule", MARKS, wrong_tables()))
        for function in (row_of_doing, doing_paper):
            try_refusals(self, function, ("cords", 2, wrong_cords()), ("rule", MARKS, wrong_tables()),
                         ("doing", (0, 1, 2, 3), wrong_doings(4)))
        try_one(self, row_of_doing, {"cords": 3, "rule": MARKS, "doing": (8,) * 8}, None, BadColours, 0)
        for function in (row_of_doing, doing_paper):
            with self.assertRaises(BadColours):
                function(4, wild(4), (0,) * 255 + (256,))


def none_of(cords, rule):
    """Numbers of colourings that are no doing."""
    return tuple(range(len(rule[1]) ** cords - 1, -1, -1))


def last_doing(cords, rule):
    """The last least row of all kinds with its doing, and the one before it."""
    moves = {crossing: done(cords, (crossing,), rule) for crossing in crossings(cords)}
    start = tuple(range(len(rule[1]) ** cords))
    known = {start: ()}
    level = [start]
    while level:
        behind = []
        for doing in level:
            for crossing in crossings(cords):
                found = tuple(moves[crossing][number] for number in doing)
                if found not in known:
                    known[found] = known[doing] + (crossing,)
                    behind.append(found)
        level = behind
    ends = sorted(known.items(), key=lambda pair: (len(pair[1]), pair[1]))[-2:]
    return [(row, doing) for doing, row in ends[::-1]]


class TestPapers(unittest.TestCase):
    def test_all_numbers(self):
        rules = [COPY, MARKS, still(2), turning(2), wild(2, 5)]
        for rule in rules:
            first = kinds_by_rows(2, rule, 9)
            self.assertEqual(len(first), len(kinds_over(2, rule)))
            for numbers in colourings(4, still(4)):
                paper = doing_paper(2, rule, numbers)
                self.assertIs(check_doing(2, rule, numbers, paper), numbers in first)
                self.assertEqual(row_of_doing(2, rule, numbers), first.get(numbers))

    def test_bent(self):
        doing = doing_of(2, (a,), COPY)
        wrong = [(("row", row), "row") for row in rows_that_are_none(2) + [(), (ra,)]]
        wrong += [(("closed", rows), "closed") for rows in [None, (), ((),), ((), (a,)), [()], "no", 0]]
        try_papers(self, check_doing, (2, COPY, doing), ("row", (a,)), *wrong)
        self.assertIs(check_doing(2, COPY, doing, ("row", (a,) * 10000)), True)
        none = (3, 2, 1, 0)
        rows = kinds_over(2, COPY)
        self.assertEqual(rows, ((), (a,), (ra,)))
        wrong = [(("closed", rows[:at] + rows[at + 1:]), "closed") for at in range(3)]
        wrong += [(("closed", rows + (row,)), "closed") for row in rows_that_are_none(2)]
        wrong += [(("closed", value), "closed") for value in (None, 0, list(rows), ((a,), (ra,)), NONE_IN, {})]
        wrong += [(("row", row), "row") for row in rows]
        try_papers(self, check_doing, (2, COPY, none), ("closed", rows), *wrong)
        for good in (rows[::-1], rows + rows, rows + ((a, ra),), (rows[1],) + rows, ((), (ra,) * 10000, (a, a))):
            self.assertIs(check_doing(2, COPY, none, ("closed", good)), False)

    def test_refusals(self):
        try_refusals(self, check_doing, ("cords", 2, wrong_cords()), ("rule", COPY, wrong_tables()),
                     ("doing", (0, 0, 3, 3), wrong_doings(4)),
                     ("paper", ("row", (a,)), [(None, BadPaper, "form"), (("row", ()), BadPaper, "row"),
                                               (("rows", (), ()), BadPaper, "form")]))


NONE_IN = ((), (a,), (ra,), None)


class TestAgain(unittest.TestCase):
    def test_beside_doing_over(self):
        for cords in (2, 3):
            for rule in few_tables() + [wild(6, seed) for seed in range(4)] + [mixed(6)]:
                for row in some_rows(cords, 3, 5) + [(), (a,)]:
                    first, step = by_doing(done(cords, row, rule))
                    self.assertEqual(again_and_again(cords, row, rule), (first, step))
                    if keeps(rule, "back"):
                        self.assertEqual(first, 0)
        self.assertEqual(again_and_again(2, (a,), COPY), (1, 1))
        self.assertEqual(again_and_again(2, (a,), turning(5)), (0, 10))

    def test_long_rounds(self):
        rule = mixed(16, 11)
        doing = doing_of(2, (a,), rule)
        lengths = []
        for number in range(256):
            at, many = doing[number], 1
            while at != number:
                at, many = doing[at], many + 1
            lengths.append(many)
        self.assertEqual(again_and_again(2, (a,), rule), (0, lcm(*lengths)))
        self.assertGreater(lcm(*lengths), 5000)

    def test_refusals(self):
        try_refusals(self, again_and_again, ("cords", 2, wrong_cords()), ("row", (a,), wrong_rows(2)),
                     ("rule", MARKS, wrong_tables()))
        with self.assertRaises(BadRule):
            again_and_again(2, (), ("turns", 2, (1,)))


def by_doing(doing):
    """FIRST and STEP by doing it over and over."""
    met = {}
    now = tuple(range(len(doing)))
    while now not in met:
        met[now] = len(met)
        now = tuple(doing[number] for number in now)
    return met[now], len(met) - met[now]


if __name__ == "__main__":
    unittest.main()
