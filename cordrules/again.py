"""Rows done again and again: their periods, numbers of times, the forms behind them."""

from math import lcm

from cordrules.checks import need_cords_and_row, need_cords_and_rows, need_custom, need_number
from cordrules.errors import TooGreat
from cordrules.forms import are_one_kind, forms_at_beginning, forms_behind
from cordrules.laps import differences_of, done_often, lap_of, rounds_until_same, turn_of
from cordrules.likeness import sums_of_pairs
from cordrules.pairs import BY_PAIRS, forms_of_numbers
from cordrules.working import order_behind

MOST_TIMES = 1000000000
MOST_DONE_AGAIN = 6000
ALL_BUT_BACK = ("any", "through", "began", "twice", "never")


def row_again(cords, row, many):
    """The crossings of the row done many times."""
    need_cords_and_row(cords, row)
    need_number(many, 0, MOST_TIMES)
    if len(row) * many > MOST_DONE_AGAIN:
        raise TooGreat(MOST_DONE_AGAIN)
    # An empty row may be done far too often to be written so often.
    return row * min(many, MOST_DONE_AGAIN)


def period(cords, row, custom):
    """The period of the row, None if there is none."""
    need_cords_and_row(cords, row)
    need_custom(custom, ALL_BUT_BACK)
    if custom == "any":
        return None if row else 1
    if custom == "through":
        forms = forms_behind(cords, row, custom)
        return 1 if forms == forms_at_beginning(cords, custom) else None
    lap = lap_of(cords, row)
    if custom == "began" and any([number != 0 for number in sums_of_pairs(cords, row * lap).values()]):
        return None
    return turn_of(cords, row, custom)


def times(cords, row, other, custom):
    """The numbers of times after which the row is alike to the other one."""
    need_cords_and_rows(cords, row, other)
    need_custom(custom, ("any",) + BY_PAIRS)
    if custom == "any":
        return times_by_any(cords, row, other)
    step = turn_of(cords, row, custom)
    by_round = differences_of(done_often(cords, row, step)[1], sums_of_pairs(cords, ()))
    goal = (order_behind(cords, other), sums_of_pairs(cords, other))
    found = []
    for first in range(step):
        found.extend(times_from(custom, first, step, done_often(cords, row, first), goal, by_round))
    return tuple(sorted(found))


def times_by_any(cords, row, other):
    """The numbers of times by "any", by which alike rows have as many crossings."""
    if not row:
        return () if other else ((0, 1),)
    many, rest = divmod(len(other), len(row))
    if rest == 0 and are_one_kind(cords, row * many, other, "any"):
        return ((many, 0),)
    return ()


def times_from(custom, first, step, here, there, by_round):
    """The pairs of FIRST and STEP for the times first, first + step and so on, none or one.

    here and there are the orders and pair numbers at first that are to be the
    same; by_round is what each further step adds to the differences.
    """
    if here[0] != there[0]:
        return []
    differences = differences_of(here[1], there[1])
    if custom == "twice" and any([difference % 4 != 0 for difference in differences]):
        return []
    if custom != "began":
        return [(first, step)]
    rounds = rounds_until_same(differences, by_round)
    if rounds is None:
        return []
    if rounds == "all":
        return [(first, step)]
    return [(first + rounds * step, 0)]


def both_times(cords, row, other, custom):
    """The numbers of times for which both rows, each done so often, are alike."""
    need_cords_and_rows(cords, row, other)
    need_custom(custom, BY_PAIRS)
    step = lcm(turn_of(cords, row, custom), turn_of(cords, other, custom))
    by_round = differences_of(done_often(cords, row, step)[1], done_often(cords, other, step)[1])
    found = []
    for first in range(step):
        here, there = done_often(cords, row, first), done_often(cords, other, first)
        found.extend(times_from(custom, first, step, here, there, by_round))
    return tuple(sorted(found))


def forms_after(cords, row, many, custom):
    """The forms behind the row done many times."""
    need_cords_and_row(cords, row)
    need_number(many, 0, MOST_TIMES)
    need_custom(custom, BY_PAIRS)
    order, numbers = done_often(cords, row, many)
    return forms_of_numbers(custom, order, numbers)
