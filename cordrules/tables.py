"""Tables: closed lots, tables within, renamed tables, tables of pairs."""

from itertools import permutations

from cordrules.checks import is_below, is_tuple_of
from cordrules.errors import BadColours, TooGreat
from cordrules.rules import MOST_TABLE_COLOURS, inverse_of, need_table, new_colour, table_by, table_with

MOST_RENAMED = 7
MOST_WITH_LOTS = 10


def need_lot(rule, colours):
    """The colours themselves, if they are a lot of the table."""
    if not isinstance(colours, tuple) or not colours:
        raise BadColours(None)
    for number, colour in enumerate(colours):
        if not is_below(colour, len(rule[1])) or (number > 0 and colour <= colours[number - 1]):
            raise BadColours(number)
    return colours


def need_renaming(rule, colours):
    """The colours themselves, if they are a renaming of the table."""
    many = len(rule[1])
    if not is_tuple_of(colours, many):
        raise BadColours(None)
    for number, colour in enumerate(colours):
        if not is_below(colour, many) or colour in colours[:number]:
            raise BadColours(number)
    return colours


def need_fewer(most, *rules):
    """Refuses tables with more colours than so many."""
    for rule in rules:
        if len(rule[1]) > most:
            raise TooGreat(most)


def is_closed(rule, colours):
    """Whether a lot is closed."""
    need_table(rule)
    need_lot(rule, colours)
    return closure_of(rule, colours) == colours


def closed_with(rule, colours):
    """The least closed lot that has all colours of a lot."""
    need_table(rule)
    need_lot(rule, colours)
    return closure_of(rule, colours)


def closure_of(rule, colours):
    """Likewise, where the lot is known to be one."""
    inside = {colour: True for colour in colours}
    waiting = list(colours)
    while waiting:
        colour = waiting.pop()
        for other in list(inside):
            for made in made_of(rule, colour, other):
                if made not in inside:
                    inside[made] = True
                    waiting.append(made)
    return tuple(sorted(inside))


def made_of(rule, colour, other):
    """All that comes of two colours, either one above."""
    _, on, off = rule
    return on[colour][other], on[other][colour], off[colour][other], off[other][colour]


def closed_lots(rule):
    """The ascending tuple of all closed lots."""
    need_table(rule)
    need_fewer(MOST_WITH_LOTS, rule)
    many = len(rule[1])
    lots = []
    for chosen in range(1, 1 << many):
        lot = tuple([colour for colour in range(many) if (chosen >> colour) & 1])
        if closure_of(rule, lot) == lot:
            lots.append(lot)
    return tuple(sorted(lots))


def table_within(rule, colours):
    """The table within a closed lot."""
    if not is_closed(rule, colours):
        raise BadColours("closed")
    return table_with(rule, colours)


def renamed_table(rule, colours):
    """The table renamed by a renaming."""
    need_table(rule)
    need_renaming(rule, colours)
    return renamed_by(rule, colours)


def renamed_by(rule, renaming):
    """Likewise, where the renaming is known to be one."""
    old = inverse_of(renaming)
    return table_by(
        len(renaming),
        lambda side, over, under: renaming[new_colour(rule, side, old[over], old[under])])


def renamings_between(rule, far_rule):
    """The ascending tuple of the renamings that rename rule to far_rule."""
    need_table(rule)
    need_table(far_rule)
    need_fewer(MOST_RENAMED, rule, far_rule)
    many = len(rule[1])
    if len(far_rule[1]) != many:
        return ()
    return tuple([renaming for renaming in permutations(list(range(many))) if renamed_by(rule, renaming) == far_rule])


def least_table(rule):
    """The least of all tables to which the table can be renamed."""
    need_table(rule)
    need_fewer(MOST_RENAMED, rule)
    return min([renamed_by(rule, renaming) for renaming in permutations(list(range(len(rule[1]))))])


def pair_table(rule, far_rule):
    """The table of pairs of two tables."""
    need_table(rule)
    need_table(far_rule)
    many, far_many = len(rule[1]), len(far_rule[1])
    if many * far_many > MOST_TABLE_COLOURS:
        raise TooGreat(MOST_TABLE_COLOURS)

    def pair_change(side, over, under):
        first = new_colour(rule, side, over // far_many, under // far_many)
        return first * far_many + new_colour(far_rule, side, over % far_many, under % far_many)

    return table_by(many * far_many, pair_change)
