"""[58], [59]: cordrules/trials.py."""

import unittest
from functools import lru_cache
from itertools import combinations, product

from cordrules.errors import BadPaper, BadRule, BadSeen, TooGreat
from cordrules.filled import all_tables
from cordrules.rules import run_colours
from cordrules.sights import fitting
from cordrules.trials import (
    best_plan, best_trial, depth_of, does_settle, fewest_trials, idle_trials, least_lot, led_by, lots_by, need_menu,
    need_plan, needed_trials)
from helpers import (
    CUSTOMS, NOTHING, some_rows, try_great, try_one, try_refusals, wrong_customs, wrong_numbers, wrong_told_rules)
from looking import EMPTY, PART, a, b, gapped_from, gaps, ra, rb, some_seen, wrong_gapped, wrong_menus, wrong_seen

ALL_PAIRS = tuple((2, (crossing,), colours) for crossing in (a, ra) for colours in product((0, 1), repeat=2))
SOME = ("table", ((0, None), (None, None)), EMPTY[2])
# Trials that bring just 2,000 sets of tables of which some are not one to the menu.
JUST = (EMPTY, "any", (), (
    (2, (a,), (1, 1)), (2, (ra,), (1, 0)), (2, (ra, ra), (0, 0)), (3, (a, a, rb), (0, 0, 0)), (2, (a,), (0, 0)),
    (2, (a, a), (1, 0)), (2, (ra, a, a), (0, 1)), (2, (ra, a), (1, 1))))
ONE_MORE = JUST[:3] + (JUST[3][:7] + ((3, (rb, ra, b), (0, 1, 1)),),)


def some_menu(many, colours, seed):
    """A menu of so many trials."""
    menu = []
    for number, row in enumerate(some_rows(2, many, 1 + seed % 3, seed + 1)):
        menu.append((2, row, ((number + seed) % colours, (number * seed) % colours)))
    if many > 2:
        menu[1] = (3, (b, a), (0, colours - 1, seed % colours))
    return tuple(menu)


def cases():
    """Gapped tables, customs, seen things and menus."""
    for number, rule in enumerate(list(all_tables(2, "any"))[::41] + list(all_tables(3, "back"))[::43]):
        for custom in CUSTOMS[number % 3::3]:
            if len(rule[1]) == 3 and custom == "any":
                continue
            for many in (1, 2, 3, 4):
                for seen in ((), some_seen(rule, 2, number)):
                    yield gapped_from(rule, number), custom, seen, some_menu(many, len(rule[1]), number + many)
        yield gaps(len(rule[1])), "back", (), some_menu(4, len(rule[1]), number)
        yield gaps(len(rule[1])), "through", some_seen(rule, 1, number), some_menu(3, len(rule[1]), number)
    for many in (3, 4):
        yield EMPTY, "any", (), ALL_PAIRS[:many]
        yield EMPTY, "back", (), ALL_PAIRS[-many:]
    yield EMPTY, "back", ((2, (), (0, 1), (1, None)),), ALL_PAIRS[:3]
    yield gaps(1), "any", (), ((5, (a,), (0,) * 5),)


@lru_cache(maxsize=None)
def sight(rule, trial):
    return run_colours(trial[0], trial[1], rule, trial[2])


@lru_cache(maxsize=None)
def is_one_to(menu, tables):
    """Whether tables are one to a menu."""
    return len({tuple(sight(rule, trial) for trial in menu) for rule in tables}) < 2


def branches_of(menu, tables, number):
    """What a trial shows, ascending, with the tables that show it."""
    shown = {}
    for rule in tables:
        shown.setdefault(sight(rule, menu[number]), []).append(rule)
    return [(found, tuple(far)) for found, far in sorted(shown.items())]


@lru_cache(maxsize=None)
def least_depth(menu, tables):
    """The least depth of a plan that settles, by going through all plans."""
    if is_one_to(menu, tables):
        return 0
    depths = []
    for number in range(len(menu)):
        branches = branches_of(menu, tables, number)
        if len(branches) > 1:
            depths.append(1 + max(least_depth(menu, far) for _, far in branches))
    return min(depths)


def first_best(menu, tables):
    """The least number with which a plan of the least depth begins."""
    depth = least_depth(menu, tables)
    if depth == 0:
        return None
    for number in range(len(menu)):
        if 1 + max(least_depth(menu, far) for _, far in branches_of(menu, tables, number)) == depth:
            return number


def plan_by_best(menu, tables):
    """The best plan, from the words of the document."""
    number = first_best(menu, tables)
    if number is None:
        return ()
    return number, tuple((shown, plan_by_best(menu, far)) for shown, far in branches_of(menu, tables, number))


def all_plans(menu, tables, depth):
    """All plans of at most this depth."""
    found = [()]
    if depth > 0:
        for number in range(len(menu)):
            branches = branches_of(menu, tables, number)
            choices = [all_plans(menu, far, depth - 1) for _, far in branches]
            for chosen in product(*choices):
                found.append((number, tuple((shown, plan) for (shown, _), plan in zip(branches, chosen))))
    return found


def settles(menu, tables, plan):
    """Whether a plan settles, and its depth."""
    if plan == ():
        return is_one_to(menu, tables), 0
    ends = [settles(menu, far, branch[1]) for (_, far), branch in zip(branches_of(menu, tables, plan[0]), plan[1])]
    return all(end for end, _ in ends), 1 + max([depth for _, depth in ends], default=0)


class TestTrials(unittest.TestCase):
    def test_lots(self):
        for told in cases():
            tables = fitting(*told[:3])
            menu = told[3]
            by_sights = {}
            for rule in tables:
                by_sights.setdefault(tuple(sight(rule, trial) for trial in menu), []).append(rule)
            self.assertEqual(lots_by(*told), tuple(sorted(tuple(lot) for lot in by_sights.values())))
            idle = tuple(number for number, trial in enumerate(menu) if len({sight(rule,
            trial) for rule in tables}) < 2)
            self.assertEqual(idle_trials(*told), idle)
        self.assertEqual(lots_by(EMPTY, "back", ((2, (), (0, 1), (1, None)),), ALL_PAIRS), ())
        self.assertEqual(len(lots_by(EMPTY, "any", (), ALL_PAIRS)), 256)

    def test_best(self):
        depths = set()
        for told in cases():
            menu = told[3]
            tables = fitting(*told[:3])
            depth = fewest_trials(*told)
            depths.add(depth)
            self.assertEqual(depth, least_depth(menu, tables))
            self.assertEqual(best_trial(*told), first_best(menu, tables))
            plan = best_plan(*told)
            self.assertEqual(plan, plan_by_best(menu, tables))
            self.assertIs(need_plan(*told, plan), plan)
            self.assertIs(does_settle(*told, plan), True)
            self.assertEqual(depth_of(plan), depth)
            self.assertLessEqual(depth, len(least_lot(*told)))
            for rule in tables[::7]:
                done, at = [], plan
                while at != ():
                    done.append(at[0])
                    at = dict(at[1])[sight(rule, menu[at[0]])]
                self.assertEqual(led_by(*told, rule), tuple(done))
        self.assertEqual(depths, {0, 1, 2, 3, 4})

    def test_all_plans(self):
        for told in [one for one in cases() if len(one[3]) < 3][::4]:
            menu, tables = told[3], fitting(*told[:3])
            least = []
            for plan in all_plans(menu, tables, 2):
                good, depth = settles(menu, tables, plan)
                self.assertIs(need_plan(*told, plan), plan)
                self.assertIs(does_settle(*told, plan), good)
                self.assertEqual(depth_of(plan), depth)
                if good:
                    least.append(depth)
            self.assertEqual(min(least), fewest_trials(*told))

    def test_lots_of_trials(self):
        for told in cases():
            menu, tables = told[3], fitting(*told[:3])
            good = []
            for many in range(len(menu) + 1):
                for lot in combinations(range(len(menu)), many):
                    rest = {}
                    for rule in tables:
                        told_by = tuple(sight(rule, menu[number]) for number in lot)
                        rest.setdefault(told_by, []).append(rule)
                    if all(is_one_to(menu, tuple(part)) for part in rest.values()):
                        good.append(lot)
            self.assertEqual(least_lot(*told), good[0])
            needed = tuple(number for number in range(len(menu)) if all(number in lot for lot in good))
            self.assertEqual(needed_trials(*told), needed)
            self.assertEqual(needed, tuple(
                number for number in range(len(menu))
                if tuple(far for far in range(len(menu)) if far != number) not in good))

    def test_examples(self):
        self.assertEqual(fewest_trials(EMPTY, "back", (), ALL_PAIRS), 2)
        self.assertEqual(best_trial(EMPTY, "back", (), ALL_PAIRS), 0)
        self.assertEqual(least_lot(EMPTY, "back", (), ALL_PAIRS), (0, 2))
        self.assertEqual(needed_trials(EMPTY, "any", (), ALL_PAIRS), tuple(range(8)))
        self.assertEqual(least_lot(EMPTY, "any", (), ALL_PAIRS), tuple(range(8)))
        self.assertEqual(needed_trials(EMPTY, "back", (), ALL_PAIRS), ())
        # A crossing on one colour tells how the next ones can be told in fewer trials.
        menu = ((2, (a, a), (0, 1)), (2, (a,), (0, 1)), (2, (a,), (1, 0)), (2, (a,), (0, 0)))
        told = (EMPTY, "any", (), menu)
        self.assertEqual(fewest_trials(*told), least_depth(menu, fitting(*told[:3])))


class TestPlans(unittest.TestCase):
    def test_bent(self):
        told = (EMPTY, "back", (), ALL_PAIRS)
        plan = best_plan(*told)
        number, branches = plan
        (first, below), (second, far_below) = branches
        other = (2, below[1])
        bent = [(number, branches[::-1]), (number, branches[:1]), (number, ()), (number, branches + branches[1:]),
                (number, ((first, below), ((1, 1), far_below))), (4, branches), (number, ((first, below), (
                    second, (2, far_below[1][:1])))), (number, ((first, (2, ())), (second, far_below))),
                (number, branches + (((1, 1), ()),)), (number, (((5, 6), ()),)), (number, (((), ()),)),
                (number, ((first, (0, ())), (second, ()))), (number, ((first + (0,), ()), (second, ())))]
        for value in bent:
            for function in (need_plan, does_settle):
                try_one(self, function, dict(zip(("gapped", "custom", "seen", "menu", "plan"), told + (value,))),
                        value, BadPaper, "branches")
        for value, good in (((), False), ((number, ((first, ()), (second, ()))), False), (plan, True),
                            ((number, ((first, other), (second, far_below))), True),
                            ((number, ((first, (0, ((first, below),))), (second, far_below))), True),
                            ((number, ((first, ()), (second, far_below))), False)):
            self.assertIs(need_plan(*told, value), value)
            self.assertIs(does_settle(*told, value), good)
        # Where no table is left, no trial shows anything.
        none = (EMPTY, "back", ((2, (), (0, 1), (1, None)),), ALL_PAIRS)
        for value in ((), (7, ())):
            self.assertIs(need_plan(*none, value), value)
            self.assertIs(does_settle(*none, value), True)
        self.assertEqual(best_plan(*none), ())
        self.assertIsNone(best_trial(*none))
        try_one(self, need_plan, dict(zip(("gapped", "custom", "seen", "menu", "plan"), none + ((0, ((
            (0, 0), ()),)),))), 0, BadPaper, "branches")

    def test_depths(self):
        self.assertEqual(depth_of(()), 0)
        self.assertEqual(depth_of((7, ())), 1)
        self.assertEqual(depth_of((0, (((0, 1), ()), ((), (3, ())), ((5, -10 ** 30), ())))), 2)
        plan = chain(8)
        self.assertEqual(depth_of(plan), 8)
        try_one(self, depth_of, {"plan": chain(9)}, 0, BadPaper, "form")
        try_one(self, depth_of, {"plan": (0, (((0, 0), ()), ((1, 1), chain(8))))}, 0, BadPaper, "form")
        one = (gaps(1), "any", (), ((2, (a,), (0, 0)),))
        self.assertIs(need_plan(*one, plan), plan)
        self.assertIs(does_settle(*one, plan), True)
        try_one(self, need_plan, dict(zip(("gapped", "custom", "seen", "menu", "plan"), one + (chain(9),))),
                0, BadPaper, "form")
        for value in wrong_plans(8):
            try_one(self, depth_of, {"plan": value}, 0, BadPaper, "form")
            try_one(self, depth_of, {"plan": (0, (((0,), ()), ((0,), value)))}, 0, BadPaper, "form")

    def test_great_sets(self):
        # The trials of ALL_PAIRS bring thousands of sets of the 256 tables; need_plan and does_settle take them.
        for function in (fewest_trials, best_trial, best_plan):
            try_great(self, 2000, function, EMPTY, "any", (), ALL_PAIRS)
        table = all_tables(2, "any")[99]
        try_great(self, 2000, led_by, EMPTY, "any", (), ALL_PAIRS, table)
        self.assertIs(does_settle(EMPTY, "any", (), ALL_PAIRS, ()), False)
        self.assertEqual(len(least_lot(EMPTY, "any", (), ALL_PAIRS)), 8)
        try_one(self, led_by, {"gapped": PART, "custom": "any", "seen": (), "menu": ALL_PAIRS, "rule": ("turns", 2,
                (0,))}, 0, BadRule, "left")
        for told, many in ((JUST, 2000), (ONE_MORE, 2001)):
            self.assertEqual(len(sets_reached(*told)), many)
            if many > 2000:
                try_great(self, 2000, fewest_trials, *told)
            else:
                self.assertEqual(depth_of(best_plan(*told)), fewest_trials(*told))


def sets_reached(gapped, custom, seen, menu):
    """All sets of tables that trials bring and in which some are not one to the menu."""
    found = set()
    waiting = [fitting(gapped, custom, seen)]
    while waiting:
        tables = waiting.pop()
        if tables in found or is_one_to(menu, tables):
            continue
        found.add(tables)
        for number in range(len(menu)):
            waiting.extend(far for _, far in branches_of(menu, tables, number))
    return found


def chain(depth):
    """A plan of one branch, so deep."""
    plan = ()
    for _ in range(depth):
        plan = (0, (((0, 0), plan),))
    return plan


def wrong_plans(many):
    """What has not the form of a plan for a menu of so many trials."""
    wrong = [None, True, 0, "", "ab", [], {}, NOTHING, (0,), (0, (), ()), [0, ()], ((), ()), ((0, ()),)]
    for number in (None, True, False, many, -1, "0", (0,), [0], 10 ** 30, NOTHING):
        wrong.append((number, ()))
    for branches in (None, True, 0, "", "ab", [], [((0, 0), ())], {}, NOTHING, (None,), ((),), (((0, 0),),),
                     (((0, 0), (), ()),), ([(0, 0), ()],), ((None, ()),), ((0, ()),), (([0, 0], ()),), (("00", ()),),
                     (((0, True), ()),), (((None, 0), ()),), ((("0", 0), ()),), (((0, (0,)), ()),), (((0, 0), None),),
                     (((0, 0), []),), (((0, 0), ()), None), (((0, 0), (0, None)),)):
        wrong.append((0, branches))
    return wrong


class TestRefusals(unittest.TestCase):
    def test_arguments(self):
        told = [("gapped", SOME, wrong_gapped()), ("custom", "back", wrong_customs()),
                ("seen", ((2, (a, ra), (0, 1), (0, None)),), wrong_seen(2)), ("menu", ALL_PAIRS, wrong_menus(2))]
        try_refusals(self, need_menu, ("many", 2, wrong_numbers(1, 200)), told[3])
        for function in (lots_by, fewest_trials, best_trial, best_plan, least_lot, needed_trials, idle_trials):
            try_refusals(self, function, *told)
        left = fitting(SOME, "back", told[2][1])[0]
        far = ("table", ((0, 1), (0, 1)), ((1, 0), (1, 0)))
        try_refusals(self, led_by, *told, ("rule", left, wrong_told_rules() + [(far, BadRule, "left"), (
            ("turns", 2, (0,)), BadRule, "left"), (("table", ((0,),), ((0,),)), BadRule, "left")]))
        wrong = [(value, BadPaper, "form") for value in wrong_plans(8)]
        for function in (need_plan, does_settle):
            try_refusals(self, function, *told, ("plan", (), wrong + [((0, (((9, 9), ()),)), BadPaper, "branches")]))
        try_refusals(self, depth_of, ("plan", (0, (((0, 0), ()),)), wrong))

    def test_menus(self):
        for many in (1, 8):
            menu = ALL_PAIRS[:many]
            self.assertIs(need_menu(2, menu), menu)
        try_one(self, need_menu, {"many": 2, "menu": ALL_PAIRS + ALL_PAIRS[:1]}, 0, BadSeen, None)
        try_one(self, need_menu, {"many": 1, "menu": ALL_PAIRS}, 0, BadSeen, 1)
        menu = ((5, ((("left", 3),) * 60), (199, 0, 0, 0, 1)),)
        self.assertIs(need_menu(200, menu), menu)

    def test_what_comes_behind(self):
        full = ("table", ((0, 1, 2),) * 3, ((0, 1, 2),) * 3)
        for gapped in (gaps(3), full):
            for function in (lots_by, fewest_trials, best_trial, best_plan, least_lot, needed_trials, idle_trials):
                try_great(self, 2, function, gapped, "any", (), ALL_PAIRS)
            try_great(self, 2, led_by, gapped, "any", (), ALL_PAIRS, ("turns", 1, (0,)))
            try_great(self, 2, need_plan, gapped, "any", (), ALL_PAIRS, (0, (((9, 9), ()),)))
            try_great(self, 2, does_settle, gapped, "any", (), ALL_PAIRS, (0, (((9, 9), ()),)))
            good = {"gapped": gapped, "custom": "any", "seen": (), "menu": ALL_PAIRS}
            try_one(self, led_by, {**good, "rule": None}, 0, BadRule, None)
            try_one(self, need_plan, {**good, "plan": None}, 0, BadPaper, "form")
            try_one(self, fewest_trials, {**good, "menu": ()}, 0, BadSeen, None)
        try_one(self, led_by, {"gapped": EMPTY, "custom": "any", "seen": (), "menu": ALL_PAIRS, "rule": full},
                0, BadRule, "left")
        self.assertRaises(TooGreat, led_by, EMPTY, "any", (), ALL_PAIRS, all_tables(2, "any")[0])


if __name__ == "__main__":
    unittest.main()
