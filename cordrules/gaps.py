"""Tables with gaps, and the tables that fill them."""

from cordrules.breaches import does_keep
from cordrules.checks import SIDES, is_below, is_one_of, is_tuple_of, is_within, need_custom, need_number
from cordrules.errors import BadColours, BadName, BadRule, TooGreat
from cordrules.filled import MOST_ALL, MOST_ALL_BY_ANY, tables_to_ask
from cordrules.rules import need_rule, table_by


def need_gapped(gapped):
    """The gapped table itself."""
    if not is_tuple_of(gapped, 3) or not is_one_of(gapped[0], ("table",)):
        raise BadRule(None)
    on, off = gapped[1], gapped[2]
    if not isinstance(on, tuple) or not is_within(len(on), 1, MOST_ALL) or not is_gapped_square(on, len(on)):
        raise BadRule("on")
    if not is_gapped_square(off, len(on)):
        raise BadRule("off")
    return gapped


def is_gapped_square(value, many):
    """Whether a value is a tuple of so many tuples of so many colours below that, or None."""
    if not is_tuple_of(value, many):
        return False
    for line in value:
        if not is_tuple_of(line, many) or not all([is_item(many, item) for item in line]):
            return False
    return True


def is_item(many, value):
    """Whether a value can stand in a gapped table of so many colours."""
    return value is None or is_below(value, many)


def need_gapped_and_custom(gapped, custom):
    """The gapped table is looked at first."""
    need_gapped(gapped)
    need_custom(custom)


def need_few_tables(gapped, custom):
    """Refuses a gapped table to which there are too many tables."""
    if custom == "any" and len(gapped[1]) > MOST_ALL_BY_ANY:
        raise TooGreat(MOST_ALL_BY_ANY)


def gaps_of(many):
    """The gapped table of so many colours of which nothing is told."""
    need_number(many, 1, MOST_ALL)
    return table_by(many, lambda side, over, under: None)


def does_fill(gapped, rule):
    """Whether the told rule is a table that fills the gapped table."""
    need_gapped(gapped)
    need_rule(rule)
    return rule[0] == "table" and is_filling(gapped, rule)


def is_filling(gapped, rule):
    """Likewise, where the rule is known to be a table."""
    if len(rule[1]) != len(gapped[1]):
        return False
    for gapped_square, square in zip(gapped[1:], rule[1:]):
        for gapped_line, line in zip(gapped_square, square):
            for item, colour in zip(gapped_line, line):
                if item is not None and item != colour:
                    return False
    return True


def fillings(gapped, custom):
    """The tables that fill the gapped table and keep the custom, ascending."""
    need_gapped_and_custom(gapped, custom)
    need_few_tables(gapped, custom)
    return all_fillings(gapped, custom)


def all_fillings(gapped, custom):
    """Likewise, where all is known to be as it should."""
    tables = [rule for rule in tables_to_ask(len(gapped[1]), custom) if is_filling(gapped, rule)]
    return tuple([rule for rule in tables if does_keep(rule, custom)])


def sure_table(gapped, custom):
    """The gapped table with the colours that all fillings have, None if there is no filling."""
    tables = fillings(gapped, custom)
    if not tables:
        return None

    def shared(side, over, under):
        part = 1 if side == "left" else 2
        colour = tables[0][part][over][under]
        if all([rule[part][over][under] == colour for rule in tables]):
            return colour
        return None

    return table_by(len(gapped[1]), shared)


def with_item(gapped, side, over, under, value):
    """The gapped table with another item at one place."""
    need_gapped(gapped)
    if not is_one_of(side, SIDES):
        raise BadName(side)
    many = len(gapped[1])
    for number, colour in enumerate((over, under)):
        if not is_below(colour, many):
            raise BadColours(number)
    if not is_item(many, value):
        raise BadColours(2)

    def item_at(at_side, at_over, at_under):
        if (at_side, at_over, at_under) == (side, over, under):
            return value
        part = 1 if at_side == "left" else 2
        return gapped[part][at_over][at_under]

    return table_by(many, item_at)
