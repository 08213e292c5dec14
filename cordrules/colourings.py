"""What rows do to all colourings of a table at once."""

from cordrules.filled import tuples_of
from cordrules.rules import change_by
from cordrules.working import work_crossing


def all_colourings(cords, many):
    """All tuples of as many colours below many as cords, ascending."""
    return tuples_of(list(range(many)), cords)


def moves_of(rule, colourings, crossings):
    """For each of the crossings: for each colouring the number of the one behind it."""
    numbers = {colouring: number for number, colouring in enumerate(colourings)}
    change = change_by(rule)
    moves = {}
    for crossing in crossings:
        if crossing not in moves:
            moves[crossing] = [numbers[work_crossing(colouring, crossing, change)] for colouring in colourings]
    return moves


def doing_along(moves, row, many):
    """For each of so many colourings the number of the one behind the row."""
    doing = list(range(many))
    for crossing in row:
        move = moves[crossing]
        doing = [move[number] for number in doing]
    return doing


def both_doings(rule, colourings, row, other):
    """The doings of two rows."""
    moves = moves_of(rule, colourings, row + other)
    return doing_along(moves, row, len(colourings)), doing_along(moves, other, len(colourings))
