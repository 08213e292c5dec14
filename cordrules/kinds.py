"""Kinds of rows that are alike by a custom, numbered by their least rows."""

from math import factorial

from cordrules.checks import is_whole, need_cords, need_cords_and_row, need_custom, need_number, need_row
from cordrules.errors import BadNumber, TooGreat
from cordrules.growth import MOST_KINDS, growth_of
from cordrules.halves import count_by_length
from cordrules.lengths import is_told_for_all

MOST_LENGTH = 30


class Kinds:
    """The kinds of rows of so many cords by a custom."""

    def __init__(self, cords, custom):
        self.cords = need_cords(cords)
        self.custom = need_custom(custom)
        self._growth = growth_of(cords, custom)

    def number_of(self, row):
        """The number of the kind of the row."""
        need_row(self.cords, row)
        return self._growth.need_first(self._growth.key_of(row))

    def row_of(self, number):
        """The least row of the kind with this number."""
        self._need_kind(number)
        return self._growth.least_row(number)

    def next_of(self, number):
        """For each crossing, ascending, the number of the kind of the least row with this crossing behind it."""
        self._need_kind(number)
        return self._growth.nexts_of(number)

    def many_shortest(self, number):
        """How many shortest rows the kind has."""
        self._need_kind(number)
        return self._growth.many_shortest(number)

    def _need_kind(self, number):
        """Refuses what is no number of one of the first kinds."""
        total = many_kinds(self.cords, self.custom)
        if not is_whole(number) or number < 0 or (total is not None and number >= total):
            raise BadNumber(number)
        if number >= MOST_KINDS:
            raise TooGreat(MOST_KINDS)


def kind_number(cords, row, custom):
    """The number of the kind of the row."""
    need_cords_and_row(cords, row)
    return Kinds(cords, custom).number_of(row)


def kind_row(cords, custom, number):
    """The least row of the kind with this number."""
    return Kinds(cords, custom).row_of(number)


def kinds_total(cords, custom):
    """How many kinds there are, None if they have no end."""
    need_cords(cords)
    need_custom(custom)
    return many_kinds(cords, custom)


def many_kinds(cords, custom):
    """Likewise, where the cords and the custom are known to be such."""
    if custom == "never":
        return factorial(cords)
    if custom == "twice":
        return factorial(cords) << (cords * (cords - 1) // 2)
    return None


def kinds_by_length(cords, custom, number):
    """The tuple of how many kinds have the length 0, 1 and so on to number."""
    need_cords(cords)
    need_custom(custom)
    need_number(number, 0, MOST_LENGTH)
    if custom == "any" and cords == 2:
        # Each row is a kind of its own.
        return tuple([1 << length for length in range(number + 1)])
    if custom == "through" and cords == 3:
        return tuple([count_by_length(length) for length in range(number + 1)])
    most = None if is_told_for_all(cords, custom) and custom != "any" else MOST_KINDS
    return growth_of(cords, custom).many_by_length(number, most)
