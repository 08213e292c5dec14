"""Trials that tell the tables that are left apart, plans of trials, and lots of trials."""

from itertools import combinations

from cordrules.checks import is_below, is_tuple_of, is_whole, need_number
from cordrules.errors import BadPaper, BadRule, BadSeen
from cordrules.gaps import need_few_tables
from cordrules.left import Left
from cordrules.rules import MOST_TABLE_COLOURS, need_rule
from cordrules.sights import fitting_tables, is_worked, need_all_seen

MOST_TRIALS = 8


def need_menu(many, menu):
    """The menu itself, its colours being below many."""
    need_number(many, 1, MOST_TABLE_COLOURS)
    if not isinstance(menu, tuple) or not 1 <= len(menu) <= MOST_TRIALS:
        raise BadSeen(None)
    for number, trial in enumerate(menu):
        if not is_tuple_of(trial, 3) or not is_worked(trial, lambda value: is_below(value, many)):
            raise BadSeen(number)
    return menu


def need_all_trials(gapped, custom, seen, menu):
    """Refuses what is wrong, in this turn, but for too many tables."""
    need_all_seen(gapped, custom, seen)
    need_menu(len(gapped[1]), menu)


def tables_left(gapped, custom, seen, menu):
    """The tables that are left, behind all arguments."""
    need_few_tables(gapped, custom)
    return Left(fitting_tables(gapped, custom, seen), menu)


def need_left(gapped, custom, seen, menu):
    """The tables that are left."""
    need_all_trials(gapped, custom, seen, menu)
    return tables_left(gapped, custom, seen, menu)


def need_settled(gapped, custom, seen, menu):
    """The tables that are left, with the best trials worked out."""
    left = need_left(gapped, custom, seen, menu)
    left.settle()
    return left


def lots_by(gapped, custom, seen, menu):
    """The tables that are left, as lots of those that are one to the menu."""
    return need_left(gapped, custom, seen, menu).lots


def fewest_trials(gapped, custom, seen, menu):
    """The least depth of a plan that settles."""
    left = need_settled(gapped, custom, seen, menu)
    return left.depth_for(left.whole)


def best_trial(gapped, custom, seen, menu):
    """The least number with which a plan of the least depth begins, None if that is 0."""
    left = need_settled(gapped, custom, seen, menu)
    return left.best.get(left.whole, None)


def best_plan(gapped, custom, seen, menu):
    """The plan that does the best trial each time."""
    left = need_settled(gapped, custom, seen, menu)
    return left.plan_for(left.whole)


def led_by(gapped, custom, seen, menu, rule):
    """The numbers of the trials that the best plan does if the rule is the table."""
    need_all_trials(gapped, custom, seen, menu)
    need_rule(rule)
    left = tables_left(gapped, custom, seen, menu)
    numbers = [number for number, lot in enumerate(left.lots) if rule in lot]
    if not numbers:
        raise BadRule("left")
    left.settle()
    return left.led_by(numbers[0])


def is_plan(many, value, levels):
    """Whether a value has the form of a plan with at most so many trials one behind the other."""
    if value == ():
        return True
    if levels == 0 or not is_tuple_of(value, 2) or not is_below(value[0], many) or not isinstance(value[1], tuple):
        return False
    for branch in value[1]:
        if not is_tuple_of(branch, 2) or not isinstance(branch[0], tuple):
            return False
        if not all([is_whole(colour) for colour in branch[0]]) or not is_plan(many, branch[1], levels - 1):
            return False
    return True


def need_plan_form(many, plan):
    """Refuses what has not the form of a plan for a menu of so many trials."""
    if not is_plan(many, plan, MOST_TRIALS):
        raise BadPaper("form")


def need_planned(gapped, custom, seen, menu, plan):
    """The tables that are left, if the plan has the branches that are told."""
    need_all_trials(gapped, custom, seen, menu)
    need_plan_form(len(menu), plan)
    left = tables_left(gapped, custom, seen, menu)
    if not left.has_branches(left.whole, plan):
        raise BadPaper("branches")
    return left


def need_plan(gapped, custom, seen, menu, plan):
    """The plan itself."""
    need_planned(gapped, custom, seen, menu, plan)
    return plan


def does_settle(gapped, custom, seen, menu, plan):
    """Whether the plan settles."""
    left = need_planned(gapped, custom, seen, menu, plan)
    return left.is_settled(left.whole, plan)


def depth_of(plan):
    """The depth of the plan."""
    need_plan_form(MOST_TRIALS, plan)
    return depth_below(plan)


def depth_below(plan):
    """Likewise, where it is known to be a plan."""
    if plan == ():
        return 0
    return 1 + max([depth_below(branch[1]) for branch in plan[1]], default=0)


def least_lot(gapped, custom, seen, menu):
    """The first lot of the fewest trials that settles."""
    left = need_left(gapped, custom, seen, menu)
    lots = [lot for many in range(len(menu) + 1) for lot in combinations(list(range(len(menu))), many)]
    return [lot for lot in lots if left.are_told_apart(lot)][0]


def needed_trials(gapped, custom, seen, menu):
    """The numbers of the trials that each lot that settles has."""
    left = need_left(gapped, custom, seen, menu)
    numbers = list(range(len(menu)))
    return tuple([trial for trial in numbers if not left.are_told_apart(numbers[:trial] + numbers[trial + 1:])])


def idle_trials(gapped, custom, seen, menu):
    """The numbers of the trials that show the same by all tables that are left."""
    left = need_left(gapped, custom, seen, menu)
    return tuple([trial for trial in range(len(menu)) if len(left.branches(left.whole, trial)) < 2])
