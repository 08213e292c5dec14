"""Orders, ways, back rows, mirrored rows, rows beside one another, cuts and pieces."""

from cordrules.checks import MOST_CORDS, is_within, need_cord, need_cords_and_row, need_number, need_row
from cordrules.errors import BadCords
from cordrules.working import back_of, keep_under, order_behind, other_side, work_way


def order_of(cords, row):
    """The order behind the row."""
    need_cords_and_row(cords, row)
    return order_behind(cords, row)


def order_on_way(cords, row):
    """The orders at the beginning and behind each crossing."""
    need_cords_and_row(cords, row)
    return work_way(tuple(range(cords)), row, keep_under)


def way_of(cords, row, cord):
    """The places of the cord at the beginning and behind each crossing."""
    need_cords_and_row(cords, row)
    need_cord(cords, cord)
    return tuple([order.index(cord) for order in work_way(tuple(range(cords)), row, keep_under)])


def back_row(cords, row):
    """The row by which the row is taken back."""
    need_cords_and_row(cords, row)
    return back_of(row)


def mirrored(cords, row):
    """The row as it is seen in a mirror beside the cords."""
    need_cords_and_row(cords, row)
    return tuple([(other_side(side), cords - 2 - place) for side, place in row])


def turned_over(cords, row):
    """The row with over and under exchanged."""
    need_cords_and_row(cords, row)
    return tuple([(other_side(side), place) for side, place in row])


def beside(cords, row, far_cords, far_row):
    """The row of all cords together in which both rows stand beside one another."""
    need_cords_and_row(cords, row)
    need_far_cords(far_cords, 2, MOST_CORDS - cords)
    need_row(far_cords, far_row)
    return row + with_places_moved(far_row, cords)


def moved(cords, row, far_cords, by):
    """The row of far_cords cords that is the row moved by so many places."""
    need_cords_and_row(cords, row)
    need_far_cords(far_cords, cords, MOST_CORDS)
    need_number(by, 0, far_cords - cords)
    return with_places_moved(row, by)


def need_far_cords(far_cords, low, high):
    """The cords themselves, if there are from low to high of them."""
    if not is_within(far_cords, low, high):
        raise BadCords(far_cords)
    return far_cords


def with_places_moved(row, by):
    """The row with so much added to each place."""
    return tuple([(side, place + by) for side, place in row])


def cuts_of(cords, row):
    """The places at which the row has no crossing, ascending."""
    need_cords_and_row(cords, row)
    used = [place for _, place in row]
    return tuple([place for place in range(cords - 1) if place not in used])


def pieces_of(cords, row):
    """The pieces between the cuts: triples of the first place, how many cords, and the row there."""
    cuts = cuts_of(cords, row)
    pieces = []
    first = 0
    for last in range(cords):
        if last in cuts or last == cords - 1:
            piece = [(side, place - first) for side, place in row if first <= place < last]
            pieces.append((first, last - first + 1, tuple(piece)))
            first = last + 1
    return tuple(pieces)
