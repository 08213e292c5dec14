"""What many functions ask of their arguments."""

from cordrules.errors import BadCords, BadCustom, BadNumber, BadRow

SIDES = ("left", "right")
CUSTOMS = ("any", "back", "through", "began", "twice", "never")
MOST_CORDS = 5
MOST_CROSSINGS = 60


def is_whole(value):
    """Whether a value is an integer; True and False are none."""
    return isinstance(value, int) and not isinstance(value, bool)


def is_below(value, many):
    """Whether a value is an integer from 0 to many - 1."""
    return is_whole(value) and 0 <= value < many


def is_within(value, low, high):
    """Whether a value is an integer from low to high."""
    return is_whole(value) and low <= value <= high


def is_one_of(value, words):
    """Whether a value is one of some strings."""
    return isinstance(value, str) and value in words


def is_tuple_of(value, many):
    """Whether a value is a tuple of so many things."""
    return isinstance(value, tuple) and len(value) == many


def are_below(value, many):
    """Whether a value is a tuple of integers from 0 to many - 1."""
    if not isinstance(value, tuple):
        return False
    # Written out, for a table has up to 80,000 colours to look at.
    for item in value:
        if not isinstance(item, int) or isinstance(item, bool) or not 0 <= item < many:
            return False
    return True


def is_ascending(value, many):
    """Whether a value is an ascending tuple of integers from 0 to many - 1."""
    if not are_below(value, many):
        return False
    for at in range(1, len(value)):
        if value[at] <= value[at - 1]:
            return False
    return True


def has_each_once(value, many):
    """Whether a value is a tuple that has each integer from 0 to many - 1 once."""
    return is_tuple_of(value, many) and are_below(value, many) and len(set(value)) == many


def is_crossing(cords, value):
    """Whether a value is a crossing of so many cords."""
    return is_tuple_of(value, 2) and is_one_of(value[0], SIDES) and is_below(value[1], cords - 1)


def is_row(cords, value):
    """Whether a value is a row of so many cords."""
    if not isinstance(value, tuple) or len(value) > MOST_CROSSINGS:
        return False
    return all([is_crossing(cords, crossing) for crossing in value])


def need_cords(cords):
    """The number of cords itself."""
    if not is_within(cords, 2, MOST_CORDS):
        raise BadCords(cords)
    return cords


def need_row(cords, row):
    """The row itself."""
    if not isinstance(row, tuple) or len(row) > MOST_CROSSINGS:
        raise BadRow(None)
    for number, crossing in enumerate(row):
        if not is_crossing(cords, crossing):
            raise BadRow(number)
    return row


def need_cords_and_row(cords, row):
    """The cords are looked at first, for a row is one of so many cords."""
    need_cords(cords)
    need_row(cords, row)


def need_cords_and_rows(cords, row, other):
    """Likewise with two rows."""
    need_cords_and_row(cords, row)
    need_row(cords, other)


def need_custom(custom, listed=CUSTOMS):
    """The custom itself, if it is one of those listed."""
    if not is_one_of(custom, listed):
        raise BadCustom(custom)
    return custom


def need_cord(cords, cord):
    """The cord itself."""
    if not is_below(cord, cords):
        raise BadNumber(cord)
    return cord


def need_number(value, low, high):
    """The value itself, if it is an integer from low to high."""
    if not is_within(value, low, high):
        raise BadNumber(value)
    return value
