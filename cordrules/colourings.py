"""What rows do to all colourings of a table at once."""

from cordrules.errors import TooGreat
from cordrules.filled import tuples_of
from cordrules.growth import Growth
from cordrules.rules import change_by
from cordrules.working import all_crossings, work_crossing

MOST_SEEN = 256


def need_few_colourings(cords, rule, most=MOST_SEEN):
    """Refuses a table with more than so many colourings."""
    many = 1
    for _ in range(cords):
        many = many * len(rule[1])
    if many > most:
        raise TooGreat(most)


def all_colourings(cords, many):
    """All tuples of as many colours below many as cords, ascending."""
    return tuples_of(list(range(many)), cords)


def moves_of(rule, colourings, crossings):
    """For each of the crossings: for each colouring the number of the one behind it."""
    numbers = {colouring: number for number, colouring in enumerate(colourings)}
    change = change_by(rule)
    moves = {}
    for crossing in crossings:
        if crossing not in moves:
            moves[crossing] = [numbers[work_crossing(colouring, crossing, change)] for colouring in colourings]
    return moves


def all_moves(cords, rule):
    """Likewise, for all crossings and all colourings."""
    return moves_of(rule, all_colourings(cords, len(rule[1])), all_crossings(cords))


def nothing_done(moves):
    """The doing of the empty row."""
    return tuple(range(len(moves[("left", 0)])))


def moved_on(move, doing):
    """The doing of a row with a crossing behind it that moves so."""
    return tuple([move[number] for number in doing])


def doing_along(moves, row, many):
    """For each of so many colourings the number of the one behind the row."""
    doing = list(range(many))
    for crossing in row:
        move = moves[crossing]
        doing = [move[number] for number in doing]
    return doing


def doings_of_rows(moves, rows):
    """The doings of rows, each of which is often another one with a crossing behind it."""
    start = nothing_done(moves)
    known = {(): start}
    for row in rows:
        if row not in known:
            begun = row[:-1]
            if begun in known:
                known[row] = moved_on(moves[row[-1]], known[begun])
            else:
                known[row] = tuple(doing_along(moves, row, len(start)))
    return [known[row] for row in rows]


def both_doings(rule, colourings, row, other):
    """The doings of two rows."""
    moves = moves_of(rule, colourings, row + other)
    return doing_along(moves, row, len(colourings)), doing_along(moves, other, len(colourings))


def growth_over(cords, rule):
    """The kinds of rows over a table; their keys are the doings."""
    moves = all_moves(cords, rule)
    return Growth(cords, nothing_done(moves), lambda key, crossing: moved_on(moves[crossing], key))


def growth_over_both(cords, rule, far_rule):
    """Likewise over two tables at once; the keys are pairs of doings."""
    moves, far_moves = all_moves(cords, rule), all_moves(cords, far_rule)

    def step(key, crossing):
        return moved_on(moves[crossing], key[0]), moved_on(far_moves[crossing], key[1])

    return Growth(cords, (nothing_done(moves), nothing_done(far_moves)), step)
