"""Books of rows that are said to be alike: differences, numbers, what one book says of another one."""

from itertools import combinations
from math import gcd

from cordrules.checks import MOST_CORDS, is_row, is_tuple_of, is_within, need_cords_and_rows, need_custom
from cordrules.errors import BadBook
from cordrules.likeness import sums_of_pairs
from cordrules.working import order_behind

MOST_TRIPLES = 12
# The customs that go with books, with their own numbers.
OWN_NUMBERS = {"began": 0, "twice": 2, "never": 1}


def need_book(book):
    """The book itself."""
    if not isinstance(book, tuple) or len(book) > MOST_TRIPLES:
        raise BadBook(None)
    for number, triple in enumerate(book):
        if not is_told_triple(triple):
            raise BadBook(number)
    return book


def is_told_triple(value):
    """Whether a value can stand in a book."""
    if not is_tuple_of(value, 3) or not is_within(value[0], 2, MOST_CORDS):
        return False
    return is_row(value[0], value[1]) and is_row(value[0], value[2])


def need_book_custom(custom):
    """The custom itself, if it is one that goes with books."""
    return need_custom(custom, tuple(OWN_NUMBERS))


def need_custom_and_book(custom, book):
    """The custom is looked at first."""
    need_book_custom(custom)
    need_book(book)


def difference(cords, row, other):
    """By cords the items with each cord, None if the orders are unlike."""
    need_cords_and_rows(cords, row, other)
    return items_of(cords, row, other)


def items_of(cords, row, other):
    """Likewise, where all is known to be as it should."""
    if order_behind(cords, row) != order_behind(cords, other):
        return None
    items = [[0] * cords for _ in range(cords)]
    far_numbers = sums_of_pairs(cords, other)
    for (cord, far_cord), number in sums_of_pairs(cords, row).items():
        item = (number - far_numbers[(cord, far_cord)]) // 2
        items[cord][far_cord] = item
        items[far_cord][cord] = item
    return tuple([tuple(line) for line in items])


def book_numbers(custom, book):
    """The numbers of the book by the custom."""
    need_custom_and_book(custom, book)
    return numbers_of_book(custom, book)


def numbers_of_book(custom, book):
    """Likewise, where all is known to be as it should."""
    return joined_numbers(custom, [numbers_of_triple(triple) for triple in book])


def numbers_of_triple(triple):
    """The greatest common divisors of the items and of the sums of a triple, None if the orders are unlike."""
    items = items_of(triple[0], triple[1], triple[2])
    if items is None:
        return None
    common, far_common = 0, 0
    for line in items:
        far_common = gcd(far_common, sum(line))
        for item in line:
            common = gcd(common, item)
    return common, far_common


def joined_numbers(custom, many_numbers):
    """The numbers of a book, by those of its triples."""
    if None in many_numbers:
        return None
    common = far_common = OWN_NUMBERS[custom]
    for number, far_number in many_numbers:
        common = gcd(common, number)
        far_common = gcd(far_common, far_number)
    return common, far_common


def is_multiple(value, number):
    """Whether a value is a multiple of a number; a multiple of 0 is 0 alone."""
    if number == 0:
        return value == 0
    return value % number == 0


def are_multiples(numbers, far_numbers):
    """Whether rows that follow by the second numbers follow by the first ones, too; None are no numbers."""
    if far_numbers is None or numbers is None:
        return far_numbers is None
    return is_multiple(numbers[0], far_numbers[0]) and is_multiple(numbers[1], far_numbers[1])


def says(custom, book, far_book):
    """Whether the book says the other one."""
    return unsaid(custom, book, far_book) == ()


def unsaid(custom, book, far_book):
    """The numbers of the triples of the other book that don't follow from the book."""
    need_custom_and_book(custom, book)
    need_book(far_book)
    numbers = numbers_of_book(custom, book)
    return tuple([at for at, triple in enumerate(far_book) if not are_multiples(numbers_of_triple(triple), numbers)])


def spare_triples(custom, book):
    """The numbers of the triples that follow from all others."""
    need_custom_and_book(custom, book)
    told = [numbers_of_triple(triple) for triple in book]
    return tuple([at for at in range(len(book)) if are_multiples(
        told[at], joined_numbers(custom, told[:at] + told[at + 1:]))])


def least_part(custom, book):
    """The first tuple of the numbers of the fewest triples that have the numbers of the book."""
    need_custom_and_book(custom, book)
    told = [numbers_of_triple(triple) for triple in book]
    numbers = joined_numbers(custom, told)
    parts = [part for many in range(len(book) + 1) for part in combinations(list(range(len(book))), many)]
    return [part for part in parts if joined_numbers(custom, [told[at] for at in part]) == numbers][0]
