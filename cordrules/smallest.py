"""The smallest tables and the smallest rules that act on numbers that part two rows."""

from itertools import permutations

from cordrules.apart import own_letters
from cordrules.checks import need_cords_and_rows, need_custom
from cordrules.colourings import all_colourings, both_doings, need_few_colourings
from cordrules.errors import TooGreat
from cordrules.filled import MOST_ALL, MOST_ALL_BY_ANY, tables_keeping, tuples_of
from cordrules.parting import first_unlike
from cordrules.rules import change_by, need_table
from cordrules.working import work_row

MOST_COLOURINGS = 4096
MOST_CORDS_FOR_ALL = 4
MOST_ACTED_ON = 3


def need_parted(cords, row, other, rule):
    """Refuses what is wrong, and tables with too many colourings."""
    need_cords_and_rows(cords, row, other)
    need_table(rule)
    need_few_colourings(cords, rule, MOST_COLOURINGS)


def first_parting(cords, row, other, rule):
    """The first colours with which the table parts the rows and the first such place, None if there are none."""
    need_parted(cords, row, other, rule)
    return first_parted(row, other, rule, all_colourings(cords, len(rule[1])))


def first_parted(row, other, rule, colourings):
    """Likewise, where all is known to be as it should."""
    doing, far_doing = both_doings(rule, colourings, row, other)
    number = first_unlike(doing, far_doing)
    if number is None:
        return None
    return colourings[number], first_unlike(colourings[doing[number]], colourings[far_doing[number]])


def parting_count(cords, row, other, rule):
    """With how many colours at the beginning the table parts the rows."""
    need_parted(cords, row, other, rule)
    doing, far_doing = both_doings(rule, all_colourings(cords, len(rule[1])), row, other)
    return len([number for number, behind in enumerate(doing) if far_doing[number] != behind])


def need_few_cords(cords):
    """Refuses so many cords that there would be too much to go through."""
    if cords > MOST_CORDS_FOR_ALL:
        raise TooGreat(MOST_CORDS_FOR_ALL)


def smallest_table(cords, row, other, custom):
    """The first parting paper with a table of the fewest colours, None if there is none."""
    need_cords_and_rows(cords, row, other)
    need_custom(custom)
    need_few_cords(cords)
    most = MOST_ALL_BY_ANY if custom == "any" else MOST_ALL
    for many in range(1, most + 1):
        colourings = all_colourings(cords, many)
        for rule in tables_keeping(many, custom):
            parted = first_parted(row, other, rule, colourings)
            if parted is not None:
                return rule, parted[0], parted[1]
    return None


def smallest_acts(cords, row, other):
    """The first parting paper with a rule that acts on the fewest numbers, None if there is none."""
    need_cords_and_rows(cords, row, other)
    need_few_cords(cords)
    for many in range(1, MOST_ACTED_ON + 1):
        numbers = list(range(many))
        colours = own_letters(cords, tuple(numbers))
        for acts in tuples_of(list(permutations(numbers)), cords):
            rule = ("acts", acts)
            change = change_by(rule)
            place = first_unlike(work_row(colours, row, change), work_row(colours, other, change))
            if place is not None:
                return rule, colours, place
    return None
