"""What was seen of an unknown table, and the tables that fit it."""

from cordrules.checks import MOST_CORDS, is_below, is_row, is_tuple_of, is_within, need_cords_and_row, need_number
from cordrules.errors import BadColours, BadSeen
from cordrules.gaps import all_fillings, need_few_tables, need_gapped_and_custom
from cordrules.rules import MOST_TABLE_COLOURS, change_by, is_colour_of, need_rule
from cordrules.working import work_row

MOST_THINGS = 12


def need_seen(many, seen):
    """The seen things themselves, their colours being below many."""
    need_number(many, 1, MOST_TABLE_COLOURS)
    return need_things(seen, lambda value: is_below(value, many))


def need_things(seen, is_good):
    """Likewise, where is_good tells whether any value is a colour."""
    if not isinstance(seen, tuple) or len(seen) > MOST_THINGS:
        raise BadSeen(None)
    for number, thing in enumerate(seen):
        if not is_tuple_of(thing, 4) or not is_worked(thing[:3], is_good) or not is_tuple_of(thing[3], thing[0]):
            raise BadSeen(number)
        if not all([colour is None or is_good(colour) for colour in thing[3]]):
            raise BadSeen(number)
    return seen


def is_worked(value, is_good):
    """Whether a tuple of three is CORDS, a row of so many cords and so many colours."""
    cords, row, colours = value
    if not is_within(cords, 2, MOST_CORDS) or not is_row(cords, row):
        return False
    return is_tuple_of(colours, cords) and all([is_good(colour) for colour in colours])


def need_asked(many, cords, row, colours):
    """Refuses what is wrong with a row that is asked and its colours, which are below many."""
    need_cords_and_row(cords, row)
    if not is_tuple_of(colours, cords):
        raise BadColours(None)
    for number, colour in enumerate(colours):
        if not is_below(colour, many):
            raise BadColours(number)


def need_all_seen(gapped, custom, seen):
    """Refuses what is wrong, in this turn."""
    need_gapped_and_custom(gapped, custom)
    need_seen(len(gapped[1]), seen)


def things_against(rule, seen):
    """The numbers of the seen things that the rule doesn't show."""
    change = change_by(rule)
    against = []
    for number, (_, row, colours, sight) in enumerate(seen):
        behind = work_row(colours, row, change)
        if not all([looked is None or looked == colour for looked, colour in zip(sight, behind)]):
            against.append(number)
    return against


def first_against(rule, seen):
    """The number of the first seen thing that the told rule doesn't show, None if it shows all."""
    need_rule(rule)
    need_things(seen, lambda value: is_colour_of(rule, value))
    against = things_against(rule, seen)
    if against:
        return against[0]
    return None


def does_bear(rule, seen):
    """Whether the told rule shows all that was seen."""
    return first_against(rule, seen) is None


def fitting(gapped, custom, seen):
    """The tables that fit, ascending."""
    need_all_seen(gapped, custom, seen)
    need_few_tables(gapped, custom)
    return fitting_tables(gapped, custom, seen)


def fitting_tables(gapped, custom, seen):
    """Likewise, where all is known to be as it should."""
    return tuple([rule for rule in all_fillings(gapped, custom) if not things_against(rule, seen)])


def needless(gapped, custom, seen):
    """The numbers of the seen things without which, each by itself, the same tables fit."""
    need_all_seen(gapped, custom, seen)
    need_few_tables(gapped, custom)
    against = [things_against(rule, seen) for rule in all_fillings(gapped, custom)]
    return tuple([number for number in range(len(seen)) if [number] not in against])


def sure_colours(gapped, custom, seen, cords, row, colours):
    """By places the colour that all tables that fit bring, None where they differ; None if no table fits."""
    sights = possible_sights(gapped, custom, seen, cords, row, colours)
    if not sights:
        return None
    sure = list(sights[0])
    for sight in sights:
        for place in range(cords):
            if sight[place] != sure[place]:
                sure[place] = None
    return tuple(sure)


def possible_sights(gapped, custom, seen, cords, row, colours):
    """All that the row brings by tables that fit, ascending."""
    need_all_seen(gapped, custom, seen)
    need_asked(len(gapped[1]), cords, row, colours)
    need_few_tables(gapped, custom)
    tables = fitting_tables(gapped, custom, seen)
    return tuple(sorted(set([work_row(colours, row, change_by(rule)) for rule in tables])))
