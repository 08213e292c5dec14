"""[57]: cordrules/papers.py."""

import unittest

from cordrules.breaches import keeps
from cordrules.closing import bearing_table, is_borne, sure_names
from cordrules.errors import BadColours, BadCords, BadNumber, BadPaper, BadRow, BadSeen
from cordrules.papers import against_paper, check_against, check_sure, sure_paper
from cordrules.rules import run_colours
from cordrules.sights import does_bear
from helpers import (
    NOTHING, fields_of, some_rows, try_one, try_refusals, wrong_cord, wrong_cords, wrong_customs, wrong_numbers,
    wrong_rows, wrong_table_colours, wrong_told_rules)
from looking import a, b, long_seen, one_by_steps, ra, rb, wrong_seen
from test_closing import AGAINST, SURE, cases

NAMES_OF_ALL = ("names", "custom", "seen", "cords", "row", "colours", "place", "name", "paper")


def do_steps_hold(names, custom, seen, asked, steps):
    """The nodes that are one by steps, None if one doesn't follow, from the words of the document."""
    _, ends, met = one_by_steps(names, custom, seen, asked)
    one = {node: {node} for node in range(names + len(met))}
    for node, far, (word, first, second) in steps:
        if word == "seen":
            if {node, far} != {ends[first][second], seen[first][3][second]}:
                return None
        else:
            both = [met[first], met[second]]
            if both[1][1] not in one[both[0][1]]:
                return None
            if custom == "any":
                good = both[0][0] == both[1][0] and both[1][2] in one[both[0][2]]
                if not good or {node, far} != {both[0][3], both[1][3]}:
                    return None
            else:
                lows = [under if side == "left" else result for side, _, under, result in both]
                highs = [result if side == "left" else under for side, _, under, result in both]
                by_low = lows[1] in one[lows[0]] and {node, far} == set(highs)
                by_high = highs[1] in one[highs[0]] and {node, far} == set(lows)
                if not by_low and not by_high:
                    return None
        joined = one[node] | one[far]
        for each in joined:
            one[each] = joined
    return one, ends


def word_of(function, *arguments):
    """The word of the BadPaper that is raised, None if nothing is."""
    try:
        function(*arguments)
    except BadPaper as caught:
        return fields_of(caught)[0]
    return None


class TestSure(unittest.TestCase):
    def test_all_cases(self):
        counts = {"steps": 0, "table": 0}
        for names, seen, asked in cases():
            for custom in ("any", "back"):
                if not is_borne(names, custom, seen):
                    continue
                sure = sure_names(names, custom, seen, *asked)
                for place in range(asked[0]):
                    for name in range(names):
                        all_told = (names, custom, seen) + asked + (place, name)
                        paper = sure_paper(*all_told)
                        self.assertEqual(check_sure(*all_told, paper), paper[0])
                        self.assertEqual(paper[0], "steps" if sure[place] == name else "table")
                        counts[paper[0]] += 1
                        if paper[0] == "table":
                            rule = paper[1]
                            self.assertTrue(keeps(rule, custom) and does_bear(rule, seen))
                            self.assertTrue(names <= len(rule[1]) <= 132)
                            self.assertNotEqual(run_colours(asked[0], asked[1], rule, asked[2])[place], name)
                            self.assertEqual(word_of(check_sure, *all_told, ("steps", ())), "steps")
                        else:
                            one, ends = do_steps_hold(names, custom, seen, [asked], paper[1])
                            self.assertIn(name, one[ends[-1][place]])
                            rule = bearing_table(names, custom, seen)
                            self.assertEqual(word_of(check_sure, *all_told, ("table", rule)), "table")
        self.assertGreater(min(counts.values()), 40)

    def test_steps_by_hand(self):
        # Two crossings do the same: the second one brings what was seen of the first one.
        told = (3, "any", ((2, (a,), (0, 1), (2, None)),), 3, (b,), (1, 0, 1), 1, 2)
        good = ((3, 2, ("seen", 0, 0)), (3, 4, ("deeds", 0, 1)))
        self.assertEqual(check_sure(*told, ("steps", good)), "steps")
        self.assertEqual(check_sure(*told, ("steps", good[::-1])), "steps")
        for first in (good[0], (2, 3, ("seen", 0, 0))):
            for second in (good[1], (4, 3, ("deeds", 1, 0)), (4, 3, ("deeds", 0, 1))):
                for more in ((), ((4, 4, ("deeds", 1, 1)),), (good[0], good[1])):
                    self.assertEqual(check_sure(*told, ("steps", (first, second) + more)), "steps")
        bent = [good[:1], good[1:], (), (None,) + good, good + (None,), (good[0][:2],) + good[1:],
                (good[0] + (0,),) + good[1:], (list(good[0]),) + good[1:], ((3, 2, None),) + good[1:],
                ((3, 2, ("seen", 0)),) + good[1:], ((3, 2, ["seen", 0, 0]),) + good[1:]]
        for node in (True, None, 5, -1, "3", 0, 1, (3,)):
            bent += [((node, 2, ("seen", 0, 0)), good[1]), ((3, node, ("seen", 0, 0)), good[1]),
                     (good[0], (node, 4, ("deeds", 0, 1))), (good[0], (3, node, ("deeds", 0, 1)))]
        for why in (("seen", 0, 1), ("seen", 1, 0), ("seen", 0, 2), ("seen", 0, -1), ("seen", -1, 0), ("seen", True, 0),
                    ("seen", False, 0), ("seen", 0, False), ("seen", None, 0), ("deeds", 0, 0), ("deeds", 0, 1),
                    ("Seen", 0, 0), (None, 0, 0), (("seen",), 0, 0), (["seen"], 0, 0), "see"):
            bent += [((3, 2, why), good[1])]
        for why in (("deeds", 0, 2), ("deeds", 0, 0), ("deeds", 1, 1), ("deeds", 0, -1), ("deeds", -1, 1),
                    ("deeds", False, True), ("deeds", 0, None), ("deeds", 0, "1"), ("seen", 0, 1), ("deed", 0, 1)):
            bent += [(good[0], (3, 4, why))]
        for steps in bent:
            self.assertEqual(word_of(check_sure, *told, ("steps", steps)), "steps", steps)
        # All steps must follow, also those that are not needed.
        for step in ((0, 1, ("seen", 0, 0)), (3, 1, ("seen", 0, 0)), (0, 2, ("seen", 0, 0)), (0, 1, ("seen", 0, 1)),
                     (3, 0, ("deeds", 0, 1)), (0, 1, ("deeds", 1, 1)), (3, 4, ("deeds", None, 1)),
                     (3, 4, ("deeds", False, 1)), (3, 4, ("deeds", -2, 1)), (3, 4, ("deeds", 2, 1)),
                     (3, 4, ("deeds", 0, -1)), (3, 4, ("deeds", 0, True)), (3, 4, ("deeds", 0, 2))):
            self.assertEqual(word_of(check_sure, *told, ("steps", good + (step,))), "steps", step)
            self.assertEqual(word_of(check_sure, *told, ("steps", (step,) + good)), "steps", step)

    def test_deeds_of_other_sides_and_nodes(self):
        # Crossings 0 and 1 have unlike sides, 0 and 2 unlike nodes over, 0 and 3 unlike nodes under.
        seen = ((2, (a,), (0, 1), (None, None)), (2, (ra,), (1, 0), (None, None)), (2, (a,), (1, 1), (None, None)),
                (2, (a,), (0, 0), (None, None)), (2, (a,), (0, 1), (None, None)))
        for number in (1, 2, 3):
            for custom in ("any", "back"):
                told = (2, custom, seen, 2, (), (0, 1), 0, 0)
                steps = ((2, 2 + number, ("deeds", 0, number)),)
                self.assertEqual(word_of(check_sure, *told, ("steps", steps)), "steps")
                self.assertEqual(check_sure(*told, ("steps", ((2, 6, ("deeds", 0, 4)),))), "steps")

    def test_deeds_by_hand(self):
        # By "any" the sides must be the same; by "back" a crossing is taken back by the other side.
        seen = ((2, (a, ra), (0, 1), (None, None)),)
        told = ("back", seen, 2, (a, ra), (0, 1), 1, 1)
        steps = ((3, 1, ("deeds", 0, 1)),)
        self.assertEqual(word_of(check_sure, 2, *told, ("steps", steps)), "steps")
        steps = ((1, 3, ("deeds", 1, 0)), (2, 4, ("deeds", 0, 2)), (5, 3, ("deeds", 1, 3)))
        self.assertEqual(check_sure(2, *told, ("steps", steps)), "steps")
        self.assertEqual(word_of(check_sure, 2, *told, ("steps", steps[:2])), "steps")
        self.assertEqual(word_of(check_sure, 2, "any", *told[1:], ("steps", steps)), "steps")
        self.assertEqual(check_sure(2, *told[:-2], 0, 0, ("steps", ())), "steps")
        self.assertEqual(sure_paper(2, *told[:-2], 0, 0)[0], "steps")
        # By "back" also what lies behind the crossing tells what lay ahead of it.
        seen = ((2, (a,), (0, 1), (2, None)), (2, (a,), (0, 0), (2, None)))
        self.assertEqual(against_paper(3, "any", seen)[0], "table")
        self.assertEqual(against_paper(3, "back", seen)[0], "steps")
        steps = ((3, 2, ("seen", 0, 0)), (4, 2, ("seen", 1, 0)), (0, 1, ("deeds", 0, 1)))
        self.assertEqual(check_against(3, "back", seen, ("steps", steps)), "steps")
        self.assertEqual(word_of(check_against, 3, "any", seen, ("steps", steps)), "steps")
        for fewer in (steps[:2], steps[1:], steps[::-1]):
            self.assertEqual(word_of(check_against, 3, "back", seen, ("steps", fewer)), "steps")

    def test_bent_tables(self):
        told = (2, "any", SURE, 2, (a, a), (0, 1), 0, 0)
        word, rule = sure_paper(*told)
        self.assertEqual(word, "table")
        for value in [wrong for wrong, _, _ in wrong_told_rules()] + [
                ("acts", ((0, 1),)), ("turns", 2, (0,)), ("table", ((0,),), ((0,),)),
                ("table", ((0, 0), (0, 0)), ((0, 0), (0, 0))), ("table", ((0, 1), (0, 0)), ((0, 0), (0, 0)))]:
            self.assertEqual(word_of(check_sure, *told, ("table", value)), "table", value)
        self.assertEqual(check_sure(*told, ("table", rule)), "table")
        self.assertEqual(check_sure(*told, ("table", ("table", ((0, 1), (1, 0)), ((0, 0), (0, 0))))), "table")
        # A table must keep the custom, and all names must be its colours.
        told = (2, "back", (), 2, (a,), (0, 1), 0, 1)
        swap = ("table", ((1, 0), (1, 0)), ((1, 0), (1, 0)))
        self.assertEqual(check_sure(*told, ("table", swap)), "table")
        self.assertEqual(word_of(check_sure, *told, ("table", ("table", ((1, 0), (1, 0)), ((0, 1), (1, 0))))), "table")
        self.assertEqual(word_of(check_sure, *told, ("table", ("table", ((0, 1), (1, 0)), ((0, 1), (1, 0))))), "table")
        self.assertEqual(word_of(check_against, 3, "back", (), ("table", swap)), "table")
        self.assertEqual(check_against(2, "back", (), ("table", swap)), "table")

    def test_long_ones(self):
        row = some_rows(5, 1, 60)[0]
        seen = tuple((5, row[number * 5:number * 5 + 5], (number % 12, 3, 11, 3, 7), (None,) * 5)
                     for number in range(12))
        for custom in ("any", "back"):
            for place in range(5):
                told = (12, custom, seen, 5, row[::-1], (11, 10, 9, 8, 7), place, 5)
                paper = sure_paper(*told)
                self.assertEqual(check_sure(*told, paper), paper[0])


class TestAgainst(unittest.TestCase):
    def test_all_cases(self):
        counts = {"steps": 0, "table": 0}
        for names, seen, _ in cases():
            for custom in ("any", "back"):
                paper = against_paper(names, custom, seen)
                counts[paper[0]] += 1
                self.assertEqual(check_against(names, custom, seen, paper), paper[0])
                self.assertEqual(paper[0], "table" if is_borne(names, custom, seen) else "steps")
                if paper[0] == "table":
                    self.assertTrue(keeps(paper[1], custom) and does_bear(paper[1], seen))
                    self.assertEqual(word_of(check_against, names, custom, seen, ("steps", ())), "steps")
                    continue
                one, _ = do_steps_hold(names, custom, seen, [], paper[1])
                self.assertTrue(any(far in one[name] for far in range(names) for name in range(far)))
                self.assertEqual(word_of(check_against, names, custom, seen, ("steps", ())), "steps")
        self.assertGreater(min(counts.values()), 9)

    def test_by_hand(self):
        self.assertEqual(check_against(2, "any", AGAINST, ("steps", (
            (2, 0, ("seen", 0, 0)), (1, 3, ("seen", 1, 0)), (2, 3, ("deeds", 1, 0))))), "steps")
        still = ("table", ((0, 1), (0, 1)), ((0, 1), (0, 1)))
        for rule in (still, None, ("acts", ((0, 1),))):
            self.assertEqual(word_of(check_against, 2, "any", AGAINST, ("table", rule)), "table")
        self.assertEqual(check_against(2, "back", (), ("table", still)), "table")


class TestRefusals(unittest.TestCase):
    def test_arguments(self):
        names, customs = ("names", 2, wrong_numbers(1, 12)), ("custom", "back", wrong_customs(("any", "back")))
        seen = ("seen", SURE[:1], wrong_seen(2) + [(long_seen(2, 2, 31), BadSeen, "many")])
        asked = [("cords", 2, wrong_cords()), ("row", (a,), wrong_rows(2)),
                 ("colours", (0, 1), wrong_table_colours(2, 2)), ("place", 0, wrong_cord(2)), ("name", 1,
                 wrong_cord(2))]
        try_refusals(self, against_paper, names, customs, seen)
        try_refusals(self, sure_paper, names, customs, seen, *asked)
        paper = sure_paper(2, "back", SURE[:1], 2, (a,), (0, 1), 0, 1)
        wrong = [(value, BadPaper, "form") for value in wrong_papers(paper)]
        wrong += [(("steps", ()), BadPaper, "steps"), (("table", None), BadPaper, "table")]
        try_refusals(self, check_sure, names, customs, seen, *asked, ("paper", paper, wrong))
        paper = against_paper(2, "back", SURE[:1])
        try_refusals(self, check_against, names, customs, seen, ("paper", paper, wrong))

    def test_what_comes_behind(self):
        good = dict(zip(NAMES_OF_ALL, (2, "any", AGAINST, 2, (a,), (0, 1), 0, 1, ("steps", ()))))
        fewer = {name: good[name] for name in NAMES_OF_ALL[:-1]}
        for name, value, error, field in (
                ("cords", 6, BadCords, 6), ("row", (rb,), BadRow, 0), ("colours", (0, 2), BadColours, 1),
                ("place", 2, BadNumber, 2), ("name", 2, BadNumber, 2), ("name", True, BadNumber, True)):
            try_one(self, sure_paper, {**fewer, name: value}, value, error, field)
            try_one(self, check_sure, {**good, name: value, "paper": None}, value, error, field)
        try_one(self, sure_paper, fewer, 0, BadSeen, "against")
        for paper in (("steps", ()), ("steps", (None,)), ("table", None), ("table", 0)):
            try_one(self, check_sure, {**good, "paper": paper}, 0, BadSeen, "against")
        for paper in wrong_papers(("steps", ())):
            try_one(self, check_sure, {**good, "paper": paper}, 0, BadPaper, "form")


def wrong_papers(good):
    """What has not the form of a paper."""
    return [None, True, 0, "", "ab", [], list(good), {}, NOTHING, (), good[:1], good + (0,), good[::-1], ("Steps", ()),
            (None, ()), (["steps"], ()), (("table",), ()), ("steps", None), ("steps", []), ("steps", 0), ("steps",
            "no"), ("row", ()), (True, ())]


if __name__ == "__main__":
    unittest.main()
