"""All small tables that keep a custom, and tables matched to deeds."""

from itertools import permutations

from cordrules.breaches import does_keep
from cordrules.checks import SIDES, is_below, is_one_of, is_tuple_of, need_custom, need_number
from cordrules.errors import BadSeen, TooGreat
from cordrules.rules import MOST_TABLE_COLOURS, inverse_of, table_by

MOST_ALL = 3
MOST_ALL_BY_ANY = 2


def all_tables(many, custom):
    """The ascending tuple of all tables of so many colours that keep the custom."""
    need_number(many, 1, MOST_ALL)
    need_custom(custom)
    if custom == "any" and many > MOST_ALL_BY_ANY:
        raise TooGreat(MOST_ALL_BY_ANY)
    return tables_keeping(many, custom)


def tables_keeping(many, custom):
    """Likewise, where so many can be listed."""
    return tuple([table for table in tables_to_ask(many, custom) if does_keep(table, custom)])


def tables_to_ask(many, custom):
    """The tables of so many colours, ascending; where the custom asks for "back", those that keep it."""
    colours = list(range(many))
    if custom == "any":
        squares = tuples_of(tuples_of(colours, many), many)
        return [("table", on, off) for on in squares for off in squares]
    # By "back" each line of ON is a permutation, and OFF follows from ON.
    squares = tuples_of(list(permutations(colours)), many)
    return [("table", on, tuple([inverse_of(line) for line in on])) for on in squares]


def tuples_of(things, many):
    """All tuples of so many of the things, each as often as wanted, in their order."""
    begun = [()]
    for _ in range(many):
        begun = [before + (thing,) for before in begun for thing in things]
    return begun


def table_count(many, custom):
    """How many tables of so many colours keep the custom."""
    return len(all_tables(many, custom))


def is_deed(many, value):
    """Whether a value is a deed with colours below many."""
    return is_tuple_of(value, 4) and is_one_of(value[0], SIDES) and all([is_below(item, many) for item in value[1:]])


def matched_table(many, custom, deeds):
    """The matched table of so many colours, None if two deeds are against each other."""
    need_number(many, 1, MOST_TABLE_COLOURS)
    need_custom(custom, ("any", "back"))
    if not isinstance(deeds, tuple):
        raise BadSeen(None)
    for number, deed in enumerate(deeds):
        if not is_deed(many, deed):
            raise BadSeen(number)
    return table_of_deeds(many, custom, deeds)


def table_of_deeds(many, custom, deeds):
    """Likewise, where the deeds are known to be such."""
    if custom == "any":
        return told_table(many, deeds)
    told = [{} for _ in range(many)]
    for side, over, under, result in deeds:
        low, high = (under, result) if side == "left" else (result, under)
        if told[over].get(low, high) != high:
            return None
        told[over][low] = high
    lines = [filled_permutation(many, line) for line in told]
    if None in lines:
        return None
    return ("table", tuple(lines), tuple([inverse_of(line) for line in lines]))


def told_table(many, deeds):
    """The matched table by "any", or None."""
    told = {}
    for side, over, under, result in deeds:
        if told.get((side, over, under), result) != result:
            return None
        told[(side, over, under)] = result
    return table_by(many, lambda side, over, under: told.get((side, over, under), 0))


def filled_permutation(many, told):
    """The permutation that has what a dict tells, the other numbers in their order; None if two lead to one."""
    taken = {image: True for image in told.values()}
    if len(taken) < len(told):
        return None
    free = [image for image in range(many) if image not in taken]
    filled = []
    used = 0
    for number in range(many):
        if number in told:
            filled.append(told[number])
        else:
            filled.append(free[used])
            used += 1
    return tuple(filled)
