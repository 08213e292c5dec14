"""Half turns and pieces of rows of three cords, where all is known to be as it should.

Here they are a pair of how many half turns there are and a tuple of pieces as
strings: "a" is the crossing ("left", 0), "b" is ("left", 1).
"""

from math import comb

NO_HALVES = (0, ())
WORD_OF_PLACE = ("a", "b")
OTHER_WORD = {"a": "b", "b": "a", "ab": "ba", "ba": "ab"}
# A half turn less, with these crossings ahead of it, takes back a crossing.
AHEAD_OF_LESS = {"a": "ba", "b": "ab"}


def halves_on(halves, crossing):
    """The half turns and pieces with one crossing more behind them."""
    side, place = crossing
    word = WORD_OF_PLACE[place]
    if side == "left":
        return halves_with(halves, word)
    for ahead in AHEAD_OF_LESS[word]:
        halves = halves_with(halves, ahead)
    return turned_halves(halves, -1)


def halves_with(halves, word):
    """The half turns and pieces with "a" or "b" behind them."""
    many, pieces = halves
    if not pieces or pieces[-1][-1] == word:
        return many, pieces + (word,)
    if len(pieces[-1]) == 1:
        return many, pieces[:-1] + (pieces[-1] + word,)
    # The last piece becomes a half turn.
    return turned_halves((many, pieces[:-1]), 1)


def turned_halves(halves, more):
    """The half turns and pieces with so many half turns behind them."""
    many, pieces = halves
    if more & 1:
        pieces = tuple([OTHER_WORD[piece] for piece in pieces])
    # Ahead of the pieces each half turn makes the other crossing of each one in them.
    return many + more, pieces


def halves_along(halves, row):
    """The half turns and pieces with a row behind them."""
    for crossing in row:
        halves = halves_on(halves, crossing)
    return halves


def joined_halves(halves, far_halves):
    """The half turns and pieces with others behind them."""
    many, pieces = far_halves
    halves = turned_halves(halves, many)
    for word in "".join(pieces):
        halves = halves_with(halves, word)
    return halves


def halves_off(halves):
    """The half turns and pieces of the back row."""
    many, pieces = halves
    back = NO_HALVES
    for word in "".join(pieces)[::-1]:
        back = halves_on(back, ("right", WORD_OF_PLACE.index(word)))
    return turned_halves(back, -many)


def length_of_halves(halves):
    """The length by "through"."""
    many, pieces = halves
    less = -many
    double = len([piece for piece in pieces if len(piece) == 2])
    return length_by_pieces(len(pieces) - double, double, less)


def length_by_pieces(single, double, less):
    """The length, if there are so many pieces of one crossing and of two, and so many half turns less."""
    if less <= 0:
        return single + 2 * double - 3 * less
    if less <= double:
        return single + 2 * double - less
    if less <= single + double:
        return single + less
    return 3 * less - single - 2 * double


def count_by_length(length):
    """How many half turns and pieces have this length."""
    many = 0
    for single in range(length + 1):
        for double in range(length + 1 - single):
            # With any piece the first one may begin with either crossing; which pieces are double is free.
            ways = 1 if single + double == 0 else 2 * comb(single + double, double)
            lesses = [less for less in range(-length, 2 * length + 1)
                      if length_by_pieces(single, double, less) == length]
            many += ways * len(lesses)
    return many


def row_of_words(halves):
    """The row of half turns and pieces."""
    many, pieces = halves
    if many >= 0:
        turns = (("left", 0), ("left", 1), ("left", 0)) * many
    else:
        turns = (("right", 0), ("right", 1), ("right", 0)) * -many
    return turns + tuple([("left", WORD_OF_PLACE.index(word)) for word in "".join(pieces)])
