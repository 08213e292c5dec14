"""Who meets whom, and heights of rows."""

from itertools import permutations

from cordrules.checks import has_each_once, is_ascending, need_cord, need_cords_and_row
from cordrules.errors import BadNumber
from cordrules.working import meetings, turned_crossings


def met(cords, row):
    """For each crossing the triple (OVER, UNDER, SIDE)."""
    need_cords_and_row(cords, row)
    return meetings(cords, row)


def crossed(cords, row, cord, far_cord):
    """How often the two cords cross."""
    need_cords_and_row(cords, row)
    need_cord(cords, cord)
    need_cord(cords, far_cord)
    if far_cord == cord:
        raise BadNumber(far_cord)
    both = ((cord, far_cord), (far_cord, cord))
    return len([over for over, under, _ in meetings(cords, row) if (over, under) in both])


def heights_of(cords, row):
    """The first heights of the row, None if it isn't stacked."""
    need_cords_and_row(cords, row)
    pairs = meetings(cords, row)
    heights = ()
    while len(heights) < cords:
        held = [under for over, under, _ in pairs if over not in heights]
        free = [cord for cord in range(cords) if cord not in heights and cord not in held]
        if not free:
            return None
        heights = heights + (free[0],)
    return heights


def is_heights(cords, row, heights):
    """Whether heights are heights of the row."""
    need_cords_and_row(cords, row)
    if not has_each_once(heights, cords):
        raise BadNumber(heights)
    return not against_heights(meetings(cords, row), heights)


def against_heights(pairs, heights):
    """The numbers of the crossings whose cord over comes later in the heights than the one under."""
    found = []
    for number, (over, under, _) in enumerate(pairs):
        if heights.index(over) > heights.index(under):
            found.append(number)
    return tuple(found)


def flattened(cords, row):
    """The fewest crossings that can be turned over so that the row becomes stacked, and its heights then."""
    need_cords_and_row(cords, row)
    pairs = meetings(cords, row)
    best = None
    # The first heights with the fewest crossings are also the first heights
    # of the row that is turned over there: any others would count as few.
    for heights in permutations(list(range(cords))):
        numbers = against_heights(pairs, heights)
        if best is None or len(numbers) < len(best[0]):
            best = (numbers, heights)
    return best


def turned_at(cords, row, numbers):
    """The row with the other side at the crossings with these numbers."""
    need_cords_and_row(cords, row)
    if not is_ascending(numbers, len(row)):
        raise BadNumber(numbers)
    return turned_crossings(row, numbers)
