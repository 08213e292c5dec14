"""How a row is worked over things that lie by places: cords, colours, forms.

What becomes of a thing that goes under is told by a function of the side,
the thing that goes over and the thing that goes under.
"""


def all_crossings(cords):
    """All crossings, ascending."""
    return tuple([(side, place) for side in ("left", "right") for place in range(cords - 1)])


def other_side(side):
    """The other one of the two sides."""
    if side == "left":
        return "right"
    return "left"


def back_of(row):
    """The row by which a row is taken back."""
    return tuple([(other_side(side), place) for side, place in row[::-1]])


def turned_crossings(row, numbers):
    """The row with the other side at the crossings with these numbers."""
    turned = []
    for number, (side, place) in enumerate(row):
        if number in numbers:
            side = other_side(side)
        turned.append((side, place))
    return tuple(turned)


def keep_under(_side, _over, under):
    """The change by which nothing changes; so cords are worked."""
    return under


def work_crossing(things, crossing, change):
    """The things by places behind one crossing."""
    side, place = crossing
    low, high = things[place], things[place + 1]
    if side == "left":
        high = change(side, low, high)
    else:
        low = change(side, high, low)
    return things[:place] + (high, low) + things[place + 2:]


def work_way(things, row, change):
    """The tuple of the things by places at the beginning and behind each crossing."""
    way = [things]
    for crossing in row:
        way.append(work_crossing(way[-1], crossing, change))
    return tuple(way)


def work_row(things, row, change):
    """The things by places behind the row."""
    for crossing in row:
        things = work_crossing(things, crossing, change)
    return things


def order_behind(cords, row):
    """The order behind a row."""
    return work_row(tuple(range(cords)), row, keep_under)


def meetings(cords, row):
    """For each crossing the triple of the cord over, the cord under and the side."""
    found = []
    for order, crossing in zip(work_way(tuple(range(cords)), row, keep_under), row):
        side, place = crossing
        low, high = order[place], order[place + 1]
        if side == "left":
            found.append((low, high, side))
        else:
            found.append((high, low, side))
    return tuple(found)
