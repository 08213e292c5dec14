"""Told rules: tables, rules that act on numbers, and rules that turn numbers."""

from itertools import permutations

from cordrules.checks import (
    are_below, has_each_once, is_below, is_one_of, is_tuple_of, is_within, need_cords, need_cords_and_row)
from cordrules.errors import BadColours, BadRule, TooGreat
from cordrules.working import work_row, work_way

# How many things a told rule has, its word with them.
THINGS = {"table": 3, "acts": 2, "turns": 3}
MOST_TABLE_COLOURS = 200
MOST_NUMBERS = 4001
MOST_MODULUS = 1000000
MOST_LETTERS = 5
MOST_LISTED = 2000


def need_rule(rule):
    """The told rule itself."""
    if not isinstance(rule, tuple) or not rule or not is_one_of(rule[0], tuple(THINGS)):
        raise BadRule(None)
    if len(rule) != THINGS[rule[0]]:
        raise BadRule(None)
    if rule[0] == "table":
        need_table_parts(rule[1], rule[2])
    elif rule[0] == "acts":
        if not are_permutations(rule[1]):
            raise BadRule("permutations")
    else:
        need_turns_parts(rule[1], rule[2])
    return rule


def need_table_parts(on, off):
    """Refuses the first part of a table that is wrong."""
    if not isinstance(on, tuple) or not is_within(len(on), 1, MOST_TABLE_COLOURS) or not is_square(on, len(on)):
        raise BadRule("on")
    if not is_square(off, len(on)):
        raise BadRule("off")


def is_square(value, many):
    """Whether a value is a tuple of so many tuples of so many colours below that."""
    if not is_tuple_of(value, many):
        return False
    for line in value:
        if not is_tuple_of(line, many) or not are_below(line, many):
            return False
    return True


def are_permutations(value):
    """Whether a value can be the PERMUTATIONS of a rule."""
    if not isinstance(value, tuple) or not is_within(len(value), 1, MOST_LETTERS):
        return False
    if not isinstance(value[0], tuple) or not is_within(len(value[0]), 1, MOST_NUMBERS):
        return False
    for permutation in value:
        if not has_each_once(permutation, len(value[0])):
            return False
    return True


def need_turns_parts(modulus, weights):
    """Refuses the first part of a rule that turns numbers that is wrong."""
    if not is_within(modulus, 1, MOST_MODULUS):
        raise BadRule("modulus")
    if not are_below(weights, modulus) or not is_within(len(weights), 1, MOST_LETTERS):
        raise BadRule("weights")


def need_table(rule):
    """The rule itself, if it is a table."""
    if need_rule(rule)[0] != "table":
        raise BadRule("table")
    return rule


def is_colour(rule, value):
    """Whether any value is a colour of the rule."""
    return is_colour_of(need_rule(rule), value)


def is_colour_of(rule, value):
    """Likewise, where the rule is known to be one."""
    if rule[0] == "table":
        return is_below(value, len(rule[1]))
    if not is_tuple_of(value, 2):
        return False
    if rule[0] == "turns":
        return is_below(value[0], rule[1]) and is_below(value[1], len(rule[2]))
    return has_each_once(value[0], len(rule[1][0])) and is_below(value[1], len(rule[1]))


def need_colours(cords, rule, colours):
    """The colours by places themselves."""
    need_cords(cords)
    need_rule(rule)
    return need_colours_of(rule, colours, cords)


def need_colours_of(rule, colours, many):
    """The colours themselves, if they are so many colours of the rule, which is known to be one."""
    if not is_tuple_of(colours, many):
        raise BadColours(None)
    for number, colour in enumerate(colours):
        if not is_colour_of(rule, colour):
            raise BadColours(number)
    return colours


def on_colour(rule, over, under):
    """ON of two colours."""
    need_rule(rule)
    need_colours_of(rule, (over, under), 2)
    return new_colour(rule, "left", over, under)


def off_colour(rule, over, under):
    """OFF of two colours."""
    need_rule(rule)
    need_colours_of(rule, (over, under), 2)
    return new_colour(rule, "right", over, under)


def new_colour(rule, side, over, under):
    """The colour that a cord with the colour under gets by the side under a cord with the colour over."""
    if rule[0] == "table":
        lines = rule[1] if side == "left" else rule[2]
        return lines[over][under]
    if rule[0] == "acts":
        return acted_colour(rule[1], side, over, under)
    weight = rule[2][over[1]]
    if side == "right":
        weight = -weight
    return (under[0] + weight) % rule[1], under[1]


def acted_colour(acts, side, over, under):
    """The new colour by a rule that acts on numbers."""
    lead, letter = over
    act = acts[letter]
    if side == "right":
        act = inverse_of(act)
    home = inverse_of(lead)
    return tuple([lead[act[home[number]]] for number in under[0]]), under[1]


def inverse_of(permutation):
    """The permutation backwards."""
    back = [0] * len(permutation)
    for number, image in enumerate(permutation):
        back[image] = number
    return tuple(back)


def change_by(rule):
    """What becomes of a colour that goes under, as working.py asks for it."""
    return lambda side, over, under: new_colour(rule, side, over, under)


def run_colours(cords, row, rule, colours):
    """The colours by places behind the row."""
    need_cords_and_row(cords, row)
    need_colours(cords, rule, colours)
    return work_row(colours, row, change_by(rule))


def way_of_colours(cords, row, rule, colours):
    """The colours by places at the beginning and behind each crossing."""
    need_cords_and_row(cords, row)
    need_colours(cords, rule, colours)
    return work_way(colours, row, change_by(rule))


def has_more_colours(rule, most):
    """Whether the rule has more than so many colours."""
    if rule[0] == "table":
        return len(rule[1]) > most
    if rule[0] == "turns":
        return rule[1] * len(rule[2]) > most
    many = len(rule[1])
    # The factorial is left as soon as it is too great: it would have thousands of digits.
    for factor in range(1, len(rule[1][0]) + 1):
        many = many * factor
        if many > most:
            return True
    return False


def listed_colours(rule):
    """All colours of a rule that has not too many, ascending."""
    if rule[0] == "table":
        return tuple(range(len(rule[1])))
    if rule[0] == "turns":
        return tuple([(number, letter) for number in range(rule[1]) for letter in range(len(rule[2]))])
    leads = list(permutations(list(range(len(rule[1][0])))))
    return tuple([(lead, letter) for lead in leads for letter in range(len(rule[1]))])


def colours_of(rule):
    """The ascending tuple of all colours."""
    need_rule(rule)
    if has_more_colours(rule, MOST_LISTED):
        raise TooGreat(MOST_LISTED)
    return listed_colours(rule)


def as_table(rule):
    """The table of the rule, its colours numbered in their order."""
    need_rule(rule)
    if has_more_colours(rule, MOST_TABLE_COLOURS):
        raise TooGreat(MOST_TABLE_COLOURS)
    if rule[0] == "table":
        return rule
    return table_with(rule, listed_colours(rule))


def table_with(rule, colours):
    """The table of some colours among which the rule stays, numbered in their order."""
    numbers = {colour: number for number, colour in enumerate(colours)}
    return table_by(
        len(colours),
        lambda side, over, under: numbers[new_colour(rule, side, colours[over], colours[under])])


def table_by(many, change):
    """The table of so many colours by which change(side, over, under) becomes of what goes under."""
    return ("table", square_by(many, change, "left"), square_by(many, change, "right"))


def square_by(many, change, side):
    """The ON or the OFF of such a table."""
    return tuple([tuple([change(side, over, under) for under in range(many)]) for over in range(many)])
