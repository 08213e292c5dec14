"""[52], [53]: cordrules/beside.py."""

import unittest

from cordrules.beside import beside_paper, check_beside, first_mistake, sees_as_much
from cordrules.breaches import keeps
from cordrules.errors import BadCustom, BadPaper, TooGreat
from cordrules.filled import all_tables
from cordrules.kinds import kinds_total
from cordrules.doings import kinds_over
from cordrules.likeness import are_alike, forms_of
from cordrules.partings import all_partings, table_of_lots
from cordrules.rules import as_table
from cordrules.tables import closed_lots, pair_table, table_within
from helpers import (
    CUSTOMS, first_with_forms, rows_to, try_great, try_one, try_refusals, wrong_cords, wrong_customs, wrong_tables)
from seeing import (
    COPY, JUST, MARKS, ONE_MORE, done, few_tables, mixed, rows_that_are_none, still, try_papers, turning, wild)

a, ra = ("left", 0), ("right", 0)


def small_pairs():
    tables = few_tables()
    chosen = [(rule, far_rule) for rule in tables for far_rule in tables]
    return chosen[::7] + [(rule, rule) for rule in tables[::5]]


class TestBeside(unittest.TestCase):
    def test_beside_all_rows(self):
        known = {}
        for cords, most in ((2, 8), (3, 3)):
            rows = rows_to(cords, most)
            for rule, far_rule in small_pairs()[::1 if cords == 2 else 9]:
                for one in (rule, far_rule):
                    if (cords, one) not in known:
                        known[(cords, one)] = [done(cords, row, one) for row in rows]
                seen = {}
                against = None
                for row, doing, far in zip(rows, known[(cords, rule)], known[(cords, far_rule)]):
                    if seen.setdefault(doing, far) != far:
                        against = row
                        break
                try:
                    paper = beside_paper(cords, rule, far_rule)
                except TooGreat:
                    try_great(self, 2000, sees_as_much, cords, rule, far_rule)
                    continue
                is_so = sees_as_much(cords, rule, far_rule)
                self.assertEqual(paper[0], "closed" if is_so else "rows")
                self.assertIs(check_beside(cords, rule, far_rule, paper), is_so)
                self.assertFalse(is_so and against is not None)
                self.assertTrue(is_so or against is not None or max(map(len, paper[1:])) > most, (rule, far_rule))

    def test_facts(self):
        tables = [rule for rule in few_tables() if len(rule[1]) > 1]
        for rule in tables[::2]:
            for lot in closed_lots(rule):
                self.try_seen(2, rule, table_within(rule, lot))
            for parting in all_partings(rule):
                self.try_seen(2, rule, table_of_lots(rule, parting))
            for far_rule in tables[::6]:
                both = pair_table(rule, far_rule)
                self.try_seen(2, both, rule)
                self.try_seen(2, both, far_rule)
        for rule, far_rule in small_pairs()[::11]:
            try:
                if sees_as_much(3, rule, far_rule):
                    self.assertTrue(sees_as_much(2, rule, far_rule))
            except TooGreat:
                pass

    def try_seen(self, cords, rule, far_rule):
        try:
            self.assertTrue(sees_as_much(cords, rule, far_rule))
        except TooGreat:
            pass

    def test_limits(self):
        cords, rule = JUST
        self.assertIs(sees_as_much(cords, rule, still(1)), True)
        paper = beside_paper(cords, rule, still(1))
        self.assertEqual(paper, ("closed", kinds_over(cords, rule)))
        self.assertIs(check_beside(cords, rule, still(1), paper), True)
        self.assertIs(sees_as_much(cords, still(1), rule), False)
        cords, rule = ONE_MORE
        for function in (sees_as_much, beside_paper):
            try_great(self, 2000, function, cords, rule, still(1))
            try_great(self, 2000, function, cords, still(1), rule)
            try_great(self, 2000, function, 4, wild(4), wild(4))
        self.assertIs(check_beside(cords, still(1), rule, ("rows", (), (a,))), False)

    def test_bent(self):
        rows = kinds_over(2, turning(3))
        wrong = [(("closed", rows[:at] + rows[at + 1:]), "closed") for at in range(len(rows))]
        wrong += [(("closed", rows + (row,)), "closed") for row in rows_that_are_none(2) + [rows[-1], (a, ra)]]
        wrong += [(("closed", value), "closed") for value in (None, 0, "", list(rows), (), ((a,),), ((),), {})]
        wrong += [(("rows", row, ()), "rows") for row in rows_that_are_none(2)]
        wrong += [(("rows", (), row), "rows") for row in rows_that_are_none(2)]
        wrong += [(("rows", row, ()), "rows") for row in rows] + [(("rows", (a, ra), ()), "rows")]
        wrong += [(("closed", (), ()), "form"), (("rows", ()), "form"), (("row", ()), "form")]
        try_papers(self, check_beside, (2, turning(3), turning(3)), ("closed", rows), *wrong)
        self.assertIs(check_beside(2, turning(3), turning(3), ("closed", rows[::-1])), True)
        six = (a,) * 6
        self.assertIs(sees_as_much(2, turning(3), turning(6)), False)
        wrong = [(("rows", six, ()) + more, word) for more, word in (((0,), "form"), (((),), "form"))]
        wrong += [(("rows", six, six), "rows"), (("rows", (a,), ()), "rows"), (("rows", six * 2, ()), "rows"),
                  (("closed", rows), "closed"), (("rows", six * 1668, ()), "rows")]
        try_papers(self, check_beside, (2, turning(3), turning(6)), ("rows", six, ()), *wrong)
        for pair in ((six, ()), ((), six), (six, (a, ra)), ((), six * 1665 + (a, ra) * 5), (six * 1666 + (a, a, ra, ra),
                                                                                          six)):
            word = ("rows",) + pair
            self.assertIs(check_beside(2, turning(3), turning(6), word), False)
        # A pair of doings must come again, not only the one over the first table.
        wrong = [(("closed", ((),)), "closed"), (("closed", ((), (a,))), "closed")]
        try_papers(self, check_beside, (2, still(1), still(2)), ("rows", (a,), ()), *wrong)
        self.assertIs(check_beside(2, still(2), still(1), ("closed", ((), (a,)))), True)

    def test_refusals(self):
        for function in (sees_as_much, beside_paper):
            try_refusals(self, function, ("cords", 2, wrong_cords()), ("rule", MARKS, wrong_tables()),
                         ("far_rule", COPY, wrong_tables()))
        try_refusals(self, check_beside, ("cords", 2, wrong_cords()), ("rule", MARKS, wrong_tables()),
                     ("far_rule", still(1), wrong_tables()),
                     ("paper", ("closed", kinds_over(2, MARKS)), [
                         (None, BadPaper, "form"), (("closed", ()), BadPaper, "closed"), ((), BadPaper, "form")]))
        for rule, far_rule in ((still(17), still(1)), (still(1), still(17)), (still(17), still(17))):
            try_great(self, 256, sees_as_much, 2, rule, far_rule)
            try_great(self, 256, beside_paper, 2, rule, far_rule)
            try_great(self, 256, check_beside, 2, rule, far_rule, None)
        self.assertIs(sees_as_much(2, still(16), still(16)), True)
        for function in (sees_as_much, beside_paper):
            for value, error, field in wrong_tables()[:3]:
                try_one(self, function, {"cords": 2, "rule": still(17), "far_rule": value}, value, error, field)


class TestMistakes(unittest.TestCase):
    def test_beside_all_pairs(self):
        for cords, most in ((2, 5), (3, 3), (4, 2)):
            rows = rows_to(cords, most)
            for custom in CUSTOMS:
                for rule in few_tables()[::1 if cords == 2 else 5]:
                    if not keeps(rule, custom):
                        continue
                    expected = mistake(cords, rows, rule, custom)
                    try:
                        found = first_mistake(cords, rule, custom)
                    except TooGreat:
                        self.assertIsNone(expected)
                        continue
                    if expected is None and found is not None:
                        self.assertGreater(len(found[1]), most)
                    else:
                        self.assertEqual(found, expected)

    def test_none(self):
        marks = as_table(("turns", 2, (1, 0)))
        for cords, rule, custom, many in ((2, COPY, "never", None), (2, still(2), "never", 2), (3, still(2), "never",
                                          6), (3, still(1), "never", 1), (2, marks, "twice", 4), (3, marks, "twice",
                                          None), (5, still(3), "never", 120), (5, still(2), "never", 120)):
            if not keeps(rule, custom):
                self.assertRaises(BadCustom, first_mistake, cords, rule, custom)
                continue
            kinds = len(kinds_over(cords, rule))
            if many is not None:
                self.assertEqual(kinds, many)
            is_none = first_mistake(cords, rule, custom) is None
            self.assertIs(is_none, kinds == kinds_total(cords, custom))
        self.assertEqual(first_mistake(3, still(1), "any"), ((), (a,)))
        for rule in all_tables(2, "twice") + all_tables(3, "twice"):
            for cords in (2, 3, 4):
                is_none = first_mistake(cords, rule, "twice") is None
                self.assertIs(is_none, len(kinds_over(cords, rule)) == kinds_total(cords, "twice"))
        for custom in ("any", "back", "through", "began"):
            for rule in (still(2), turning(2), turning(3)):
                self.assertIsNotNone(first_mistake(2, rule, custom))

    def test_limits(self):
        # By "any" there are more first rows than doings over the first table are unlike.
        for cords, rule in (JUST, ONE_MORE):
            first_mistake(cords, rule, "any")
        for cords, rule, custom in ((4, mixed(4), "any"), (4, mixed(4), "back"), (4, wild(4, 3), "any")):
            try:
                row, other = first_mistake(cords, rule, custom)
            except TooGreat as caught:
                self.assertEqual(caught.most, 2000)
                continue
            self.assertEqual(done(cords, row, rule), done(cords, other, rule))
            self.assertFalse(are_alike(cords, row, other, custom))
        try_great(self, 2000, first_mistake, 4, mixed(4, 5), "back")

    def test_the_last_of_the_first_rows(self):
        # The row that is taken for another one is the last of the first 2,000 rows, or the next one behind them.
        row, other = first_mistake(3, wild(3, 100848), "any")
        firsts = first_with_forms(3, lambda row: forms_of(3, row, "any"), 2000)
        self.assertEqual(firsts.index(other), 1999)
        self.assertEqual(done(3, row, wild(3, 100848)), done(3, other, wild(3, 100848)))
        for rule, custom in ((wild(5, 6895216), "any"), (mixed(13, 5824180), "back")):
            try_great(self, 2000, first_mistake, 2, rule, custom)
        rule = wild(5, 6895216)
        firsts = first_with_forms(2, lambda row: forms_of(2, row, "any"), 2001)[:2001]
        doings = [done(2, row, rule) for row in firsts]
        self.assertEqual(len(set(doings[:2000])), 2000)
        self.assertIn(doings[2000], doings[:2000])

    def test_refusals(self):
        try_refusals(self, first_mistake, ("cords", 2, wrong_cords()), ("rule", turning(2), wrong_tables()),
                     ("custom", "twice", wrong_customs() + [("never", BadCustom, "never")]))
        self.assertRaises(BadCustom, first_mistake, 2, COPY, "back")
        self.assertRaises(BadCustom, first_mistake, 2, ("table", ((0,) * 17,) * 17, ((0,) * 17,) * 17), "back")
        try_great(self, 256, first_mistake, 2, still(17), "never")
        try_great(self, 256, first_mistake, 5, still(4), "any")


def mistake(cords, rows, rule, custom):
    """The first mistake among some rows, from the words of the document."""
    doings = [done(cords, row, rule) for row in rows]
    for far, other in enumerate(rows):
        for number in range(far):
            if doings[number] == doings[far] and not are_alike(cords, rows[number], other, custom):
                return rows[number], other
    return None


if __name__ == "__main__":
    unittest.main()
