"""How rows, told rules and books are read."""

from cordrules.books import MOST_TRIPLES
from cordrules.checks import MOST_CROSSINGS
from cordrules.reading import crossing_of_word
from cordrules.rules import MOST_LETTERS, MOST_MODULUS, MOST_NUMBERS, MOST_TABLE_COLOURS, THINGS


def row_read(reader, cords):
    """A row; what stands behind it is not looked at."""
    if reader.take_if("-"):
        return ()
    row = [reader.take(crossing_of_word(cords, reader.next_word()))]
    while len(row) < MOST_CROSSINGS:
        crossing = crossing_of_word(cords, reader.next_word())
        if crossing is None:
            break
        row.append(reader.take(crossing))
    return tuple(row)


def book_read(reader):
    """A book, at the end of the line."""
    if reader.take_if("none"):
        reader.need_over()
        return ()
    book = [triple_read(reader)]
    while len(book) < MOST_TRIPLES and reader.take_if("/"):
        book.append(triple_read(reader))
    reader.need_over()
    return tuple(book)


def triple_read(reader):
    """A triple of a book."""
    cords = reader.take_cords()
    row = row_read(reader, cords)
    reader.take_word(("=",))
    return cords, row, row_read(reader, cords)


def rule_read(reader):
    """A told rule, at the end of the line."""
    word = reader.take_word(tuple(THINGS))
    if word == "table":
        many = reader.take_number(1, MOST_TABLE_COLOURS)
        rule = (word, square_read(reader, many), square_read(reader, many))
    elif word == "acts":
        rule = (word, permutations_read(reader))
    else:
        modulus = reader.take_number(1, MOST_MODULUS)
        rule = (word, modulus, weights_read(reader, modulus))
    reader.need_over()
    return rule


def square_read(reader, many):
    """The ON or the OFF of a table."""
    lines = []
    for _ in range(many):
        reader.take_word(("/",))
        lines.append(tuple([reader.take_number(0, many - 1) for _ in range(many)]))
    return tuple(lines)


def permutations_read(reader):
    """The permutations of a rule that acts on numbers."""
    many = reader.take_number(1, MOST_NUMBERS)
    reader.take_word(("/",))
    permutations = [permutation_read(reader, many)]
    while len(permutations) < MOST_LETTERS and reader.take_if("/"):
        permutations.append(permutation_read(reader, many))
    return tuple(permutations)


def permutation_read(reader, many):
    """One permutation of so many numbers."""
    permutation = {}
    while len(permutation) < many:
        permutation[reader.take_number(0, many - 1, permutation)] = True
    return tuple(permutation)


def weights_read(reader, modulus):
    """The weights of a rule that turns numbers."""
    weights = [reader.take_number(0, modulus - 1)]
    while len(weights) < MOST_LETTERS and not reader.is_over():
        weights.append(reader.take_number(0, modulus - 1))
    return tuple(weights)
