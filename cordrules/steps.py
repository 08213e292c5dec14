"""Lengths of rows, shortest and least rows, and how far it is from one row to another one."""

from cordrules.checks import CUSTOMS, need_cords, need_cords_and_row, need_cords_and_rows, need_custom
from cordrules.errors import TooGreat
from cordrules.growth import MOST_KINDS, growth_of
from cordrules.kinds import many_kinds
from cordrules.lengths import least_of_kind, length_of_row
from cordrules.working import back_of


def fewest(cords, row, custom):
    """The length of the row."""
    need_cords_and_row(cords, row)
    need_custom(custom)
    return length_of_row(cords, row, custom)


def is_shortest(cords, row, custom):
    """Whether the row has no more crossings than its length."""
    return fewest(cords, row, custom) == len(row)


def least_row(cords, row, custom):
    """The least row of the kind of the row."""
    need_cords_and_row(cords, row)
    need_custom(custom)
    return least_of_kind(cords, row, custom)


def way_between(cords, row, other, custom):
    """The back row of the row with the other one behind it, if all is as it should be."""
    need_cords_and_rows(cords, row, other)
    need_custom(custom, CUSTOMS[1:])
    return back_of(row) + other


def how_far(cords, row, other, custom):
    """How many crossings must at least be put behind the row to make it alike to the other one."""
    return length_of_row(cords, way_between(cords, row, other, custom), custom)


def row_between(cords, row, other, custom):
    """The least row that makes the row, if it is put behind it, alike to the other one."""
    return least_of_kind(cords, way_between(cords, row, other, custom), custom)


def farthest(cords, custom):
    """The least rows of the kinds with the greatest length, ascending, None if the kinds have no end."""
    need_cords(cords)
    need_custom(custom)
    total = many_kinds(cords, custom)
    if total is None:
        return None
    if total > MOST_KINDS:
        raise TooGreat(MOST_KINDS)
    growth = growth_of(cords, custom)
    last = growth.least_row(total - 1)
    return tuple([growth.least_row(number) for number in range(total) if growth.lengths[number] == len(last)])
