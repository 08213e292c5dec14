"""The fewest crossings that must be changed to make a row alike to another one."""

from itertools import combinations
from math import comb

from cordrules.checks import need_cords_and_rows, need_custom
from cordrules.errors import TooGreat
from cordrules.forms import are_one_kind
from cordrules.letters import MOST_LETTERS
from cordrules.likeness import sums_of_pairs
from cordrules.pairs import BY_PAIRS
from cordrules.spelled import spelled_along, spelled_beginning
from cordrules.working import meetings, order_behind, turned_crossings

MOST_GONE_THROUGH = 12


def fewest_changes(cords, row, other, custom):
    """The numbers of the fewest crossings that, changed, make the row alike to the other one, None if none do."""
    need_cords_and_rows(cords, row, other)
    need_custom(custom)
    if custom not in BY_PAIRS and len(row) > MOST_GONE_THROUGH:
        raise TooGreat(MOST_GONE_THROUGH)
    if order_behind(cords, row) != order_behind(cords, other):
        return None
    if custom not in BY_PAIRS:
        return first_that_does(cords, row, other, custom)
    choices = choices_by_pairs(cords, row, other, custom)
    if choices is None:
        return None
    return tuple(sorted([number for numbers, many in choices for number in numbers[:many]]))


def ways_of_changes(cords, row, other, custom):
    """How many tuples of so many numbers as the fewest make the row alike to the other one."""
    need_cords_and_rows(cords, row, other)
    need_custom(custom, BY_PAIRS)
    if order_behind(cords, row) != order_behind(cords, other):
        return 0
    choices = choices_by_pairs(cords, row, other, custom)
    if choices is None:
        return 0
    ways = 1
    for numbers, many in choices:
        ways = ways * comb(len(numbers), many)
    return ways


def choices_by_pairs(cords, row, other, custom):
    """For each two cords the crossings of which some must be changed, and how many of them; None if they lack.

    Both rows have the same order.
    """
    if custom == "never":
        return []
    told = meetings(cords, row)
    numbers, goals = sums_of_pairs(cords, row), sums_of_pairs(cords, other)
    choices = []
    for pair in numbers:
        more = goals[pair] - numbers[pair]
        if custom == "twice":
            # Changed twice is not changed: one crossing, of either side, does or none is needed.
            side, many = None, more // 2 % 2
        else:
            side, many = ("right" if more > 0 else "left"), abs(more) // 2
        found = [number for number, (over, under, told_side) in enumerate(told)
                 if over in pair and under in pair and side in (None, told_side)]
        if len(found) < many:
            return None
        choices.append((found, many))
    return choices


def first_that_does(cords, row, other, custom):
    """The first tuple of the fewest numbers, by a custom for which all are gone through; None if none does."""
    goal = None
    if custom == "through":
        goal = need_spelled(cords, other)
    for many in range(len(row) + 1):
        for numbers in combinations(list(range(len(row))), many):
            changed = turned_crossings(row, numbers)
            if custom == "through":
                is_there = need_spelled(cords, changed) == goal
            else:
                is_there = are_one_kind(cords, changed, other, custom)
            if is_there:
                return numbers
    return None


def need_spelled(cords, row):
    """The spelled forms by "through" of a row that must not be long."""
    forms = spelled_along(spelled_beginning(cords), row, MOST_LETTERS)
    if forms is None:
        raise TooGreat(MOST_LETTERS)
    return forms
