"""Lengths of rows that are told for all rows, and the least rows of their kinds."""

from cordrules.growth import BY_PAIR_NUMBER, growth_of
from cordrules.halves import length_of_halves
from cordrules.pairs import numbers_of_forms, pairs_of
from cordrules.working import back_of

MOST_TOLD = {"any": 5, "back": 2, "through": 3, "began": 3, "twice": 4, "never": 5}


def is_told_for_all(cords, custom):
    """Whether the length by the custom is told for all rows of so many cords."""
    return cords <= MOST_TOLD[custom]


def length_by_key(cords, custom, key):
    """The length of the kind with a key of growth.py, None where only going through the kinds tells it."""
    if custom == "never":
        return len([pair for pair in pairs_of(cords) if key.index(pair[0]) > key.index(pair[1])])
    if cords == 2 and custom in BY_PAIR_NUMBER:
        return abs(key)
    if cords == 3 and custom == "through":
        return length_of_halves(key)
    if cords == 3 and custom == "began":
        return length_by_pairs(numbers_of_forms(custom, key))
    return None


def length_by_pairs(numbers):
    """The length by "began" on three cords, by the pair numbers."""
    length = sum([abs(number) for number in numbers.values()])
    # Far cords cannot cross alone: one of them goes past the middle one and back.
    if numbers[(0, 2)] != 0 and numbers[(0, 1)] == 0 and numbers[(1, 2)] == 0:
        return length + 2
    return length


def length_of_row(cords, row, custom):
    """The length of a row, which may have any number of crossings."""
    if custom == "any":
        return len(row)
    growth = growth_of(cords, custom)
    key = growth.key_of(row)
    length = length_by_key(cords, custom, key)
    if length is None:
        return growth.lengths[growth.need_first(key)]
    return length


def least_of_kind(cords, row, custom):
    """The least row of the kind of a row, which may have any number of crossings."""
    growth = growth_of(cords, custom)
    key = growth.key_of(row)
    length = length_by_key(cords, custom, key)
    if length is None:
        return growth.least_row(growth.need_first(key))
    # A crossing behind the back row takes one off at the beginning of the row.
    step = growth.step
    back = growth.key_of(back_of(row))
    least = []
    while length > 0:
        length = length - 1
        for crossing in growth.crossings:
            behind = step(back, crossing)
            if length_by_key(cords, custom, behind) == length:
                least.append(crossing)
                back = behind
                break
    return tuple(least)
