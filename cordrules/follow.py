"""Rows that follow from a book, and kinds by a book."""

from math import factorial, gcd, lcm

from cordrules.books import (
    are_multiples, need_custom_and_book, numbers_of_book, numbers_of_triple)
from cordrules.checks import need_cords, need_cords_and_row, need_cords_and_rows
from cordrules.forms import forms_behind
from cordrules.growth import Growth
from cordrules.laps import lap_of
from cordrules.letters import sign_of
from cordrules.working import work_crossing


def need_row_and_book(cords, row, custom, book):
    """Refuses what is wrong, in this turn."""
    need_cords_and_row(cords, row)
    need_custom_and_book(custom, book)


def remainder(value, number):
    """The value modulo a number; modulo 0 it stays as it is."""
    if number == 0:
        return value
    return value % number


def book_form(cords, row, custom, book):
    """The book form of the row, None if the numbers of the book are None."""
    need_row_and_book(cords, row, custom, book)
    numbers = numbers_of_book(custom, book)
    if numbers is None:
        return None
    common, far_common = numbers
    forms = []
    for counts, cord in forms_behind(cords, row, "began"):
        forms.append((tuple([remainder(count, common) for count in counts]), remainder(sum(counts), far_common), cord))
    return tuple(forms)


def does_follow(cords, row, other, custom, book):
    """Whether the two rows follow from the book."""
    need_cords_and_rows(cords, row, other)
    need_custom_and_book(custom, book)
    return are_following(cords, row, other, numbers_of_book(custom, book))


def are_following(cords, row, other, numbers):
    """Whether two rows follow from a book with these numbers."""
    return are_multiples(numbers_of_triple((cords, row, other)), numbers)


def book_kinds(cords, custom, book):
    """How many kinds by the book there are, None if they have no end."""
    need_cords(cords)
    need_custom_and_book(custom, book)
    numbers = numbers_of_book(custom, book)
    if numbers is None:
        return 1
    common, far_common = numbers
    if far_common == 0:
        return None
    kinds = factorial(cords)
    for _ in range(cords * (cords - 1) // 2):
        kinds = kinds * common
    times = far_common // common
    if cords == 2:
        return kinds * times
    for _ in range(cords):
        kinds = kinds * times
    if times & 1:
        return kinds
    return kinds // 2


def book_period(cords, row, custom, book):
    """The least number of times after which the row and () follow, None if there is none."""
    need_row_and_book(cords, row, custom, book)
    numbers = numbers_of_book(custom, book)
    if numbers is None:
        return 1
    lap = lap_of(cords, row)
    # All items and sums behind so many laps are so many times those behind one lap.
    many = 1
    for value, number in zip(numbers_of_triple((cords, row * lap, ())), numbers):
        if value != 0 and number == 0:
            return None
        if value != 0:
            many = lcm(many, number // gcd(number, value))
    return lap * many


def least_alike(cords, row, custom, book):
    """Of the rows that follow with the row those with the fewest crossings, of these the first one."""
    need_row_and_book(cords, row, custom, book)
    growth = book_growth(cords, numbers_of_book(custom, book))
    return growth.least_row(growth.need_first(growth.key_of(row)))


def book_growth(cords, numbers):
    """The kinds of rows by a book with these numbers."""
    if numbers is None:
        return Growth(cords, 0, lambda key, crossing: 0)
    common, far_common = numbers

    def change(side, over, under):
        counts, total, cord = under
        met = over[2]
        count = remainder(counts[met] + sign_of(side), common)
        return counts[:met] + (count,) + counts[met + 1:], remainder(total + sign_of(side), far_common), cord

    start = tuple([((0,) * cords, 0, cord) for cord in range(cords)])
    return Growth(cords, start, lambda key, crossing: work_crossing(key, crossing, change))
