"""Books of few triples that have given numbers."""

from cordrules.books import OWN_NUMBERS
from cordrules.working import other_side, turned_crossings


def book_with_numbers(custom, numbers):
    """A book of at most two triples with these numbers by the custom, which some book has."""
    if numbers is None:
        return ((2, (("left", 0),), ()),)
    common, far_common = numbers
    if common == far_common:
        if common == OWN_NUMBERS[custom]:
            return ()
        return (triple_of_two(common),)
    if far_common == 2 * common:
        return (triple_of_three(common),)
    if far_common == 0:
        return (triple_of_four(common),)
    return triple_of_four(common), triple_of_two(far_common)


def triple_of_two(number):
    """A triple of two cords: the item and both sums are the number."""
    return 2, (("left", 0),) * number, (("right", 0),) * number


def triple_of_three(number):
    """A triple of three cords: all items are the number, all sums twice the number."""
    # An even number of crossings leaves the order as it is: so one is kept until the others have crossed.
    kept = 1 - (number & 1)
    row = (("left", 0),) * (number - kept) + (("left", 1),) * number
    if kept:
        row = row + (("left", 0),) + (("left", 1),) * number
    else:
        row = row + (("left", 0),) * number
    return 3, row, turned_crossings(row, list(range(len(row))))


def triple_of_four(number):
    """A triple of four cords: four items are the number, with either sign, two are 0, and so are all sums."""
    odd = number & 1
    more, less = number + odd, number - odd
    # Between even numbers of crossings of the two rows there lie twice as many as the number, whatever it is.
    row = crossed_twice(0, "left", more) + crossed_twice(2, "left", less)
    other = crossed_twice(0, "right", less) + crossed_twice(2, "right", more)
    return 4, row, other


def crossed_twice(place, side, many):
    """A row of four cords by which one of two neighbours crosses the other, and a middle one, an even number of times.

    With the neighbour it has crossings of the side, with the middle cord of the other side.
    """
    if many == 0:
        return ()
    return ((side, place),) + ((other_side(side), 1),) * many + ((side, place),) * (many - 1)
