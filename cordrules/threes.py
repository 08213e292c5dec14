"""Rows of three cords by "through": half turns and pieces."""

from cordrules.checks import is_crossing, is_tuple_of, is_within, need_row
from cordrules.errors import BadForm
from cordrules.halves import (
    NO_HALVES, halves_along, halves_off, joined_halves, length_of_halves, row_of_words)

MOST_HALVES = 60
PIECE_OF_WORD = {
    "a": (("left", 0),), "b": (("left", 1),), "ab": (("left", 0), ("left", 1)), "ba": (("left", 1), ("left", 0))}
WORD_OF_PIECE = {
    (("left", 0),): "a", (("left", 1),): "b", (("left", 0), ("left", 1)): "ab", (("left", 1), ("left", 0)): "ba"}


def half_turns(row):
    """The half turns and pieces whose row is alike to the row."""
    need_row(3, row)
    return told_halves(halves_along(NO_HALVES, row))


def told_halves(halves):
    """Half turns and pieces as they are told."""
    return halves[0], tuple([PIECE_OF_WORD[word] for word in halves[1]])


def worded(halves):
    """Half turns and pieces as halves.py takes them."""
    return halves[0], tuple([WORD_OF_PIECE[piece] for piece in halves[1]])


def need_halves(halves):
    """The half turns and pieces themselves."""
    if not is_tuple_of(halves, 2) or not is_within(halves[0], -MOST_HALVES, MOST_HALVES):
        raise BadForm(None)
    pieces = halves[1]
    if not isinstance(pieces, tuple) or len(pieces) > MOST_HALVES:
        raise BadForm(None)
    for number, piece in enumerate(pieces):
        if not is_piece(piece) or (number > 0 and pieces[number - 1][-1] != piece[0]):
            raise BadForm(number)
    return halves


def is_piece(value):
    """Whether a value is a piece."""
    if not isinstance(value, tuple) or not 1 <= len(value) <= 2:
        return False
    return all([is_crossing(3, crossing) for crossing in value]) and value in WORD_OF_PIECE


def row_of_halves(halves):
    """The row of half turns and pieces."""
    return row_of_words(worded(need_halves(halves)))


def fewest_of_halves(halves):
    """The length of this row by "through"."""
    return length_of_halves(worded(need_halves(halves)))


def halves_joined(halves, far_halves):
    """The half turns and pieces of the first one's row with the other one's row behind it."""
    need_halves(halves)
    need_halves(far_halves)
    return told_halves(joined_halves(worded(halves), worded(far_halves)))


def halves_back(halves):
    """The half turns and pieces of the back row of this row."""
    return told_halves(halves_off(worded(need_halves(halves))))
