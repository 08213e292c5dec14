"""Rows that go past one another."""

from cordrules.checks import need_cords_and_row, need_cords_and_rows, need_custom
from cordrules.forms import are_one_kind
from cordrules.working import all_crossings


def goes_past(cords, row, other, custom):
    """Whether the row goes past the other one."""
    need_cords_and_rows(cords, row, other)
    need_custom(custom)
    return are_one_kind(cords, row + other, other + row, custom)


def first_not_past(cords, row, custom):
    """The first crossing that the row doesn't go past, None if there is none."""
    need_cords_and_row(cords, row)
    need_custom(custom)
    for crossing in all_crossings(cords):
        if not are_one_kind(cords, row + (crossing,), (crossing,) + row, custom):
            return crossing
    return None


def goes_past_all(cords, row, custom):
    """Whether the row goes past each crossing."""
    return first_not_past(cords, row, custom) is None
