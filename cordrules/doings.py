"""What rows do to all colourings of a table, and the kinds of rows over it."""

from math import lcm

from cordrules.checks import is_below, is_tuple_of, need_cords, need_cords_and_row, need_cords_and_rows
from cordrules.colourings import (
    all_colourings, all_moves, both_doings, doings_of_rows, growth_over, moved_on, need_few_colourings)
from cordrules.errors import BadColours, BadPaper
from cordrules.parting import first_unlike
from cordrules.rules import need_table
from cordrules.showing import is_paper_row, need_paper_form


def doing_of(cords, row, rule):
    """The doing of the row over the table."""
    need_cords_and_row(cords, row)
    need_few_colourings(cords, need_table(rule))
    return doing_over(cords, row, rule)


def doing_over(cords, row, rule):
    """Likewise, where all is known to be as it should."""
    return doings_of_rows(all_moves(cords, rule), (row,))[0]


def what_parts(cords, row, other, rule):
    """The first colouring from which the rows lead to unlike ones, None if there is none."""
    need_cords_and_rows(cords, row, other)
    need_few_colourings(cords, need_table(rule))
    colourings = all_colourings(cords, len(rule[1]))
    doing, far_doing = both_doings(rule, colourings, row, other)
    number = first_unlike(doing, far_doing)
    if number is None:
        return None
    return colourings[number]


def kinds_over(cords, rule):
    """The least rows of all kinds over the table, ascending."""
    need_cords(cords)
    need_few_colourings(cords, need_table(rule))
    growth = growth_over(cords, rule)
    growth.need_all()
    return growth.least_rows()


def least_over(cords, row, rule):
    """The least row of the kind of the row."""
    need_cords_and_row(cords, row)
    need_few_colourings(cords, need_table(rule))
    growth = growth_over(cords, rule)
    return growth.least_row(growth.need_first(growth.key_of(row)))


def need_doing(cords, rule, doing):
    """The doing itself, if it is a tuple of as many numbers of colourings as the table has colourings."""
    need_cords(cords)
    need_few_colourings(cords, need_table(rule))
    many = len(all_colourings(cords, len(rule[1])))
    if not is_tuple_of(doing, many):
        raise BadColours(None)
    for number, behind in enumerate(doing):
        if not is_below(behind, many):
            raise BadColours(number)
    return doing


def row_of_doing(cords, rule, doing):
    """The least row with this doing, None if there is none."""
    paper = doing_paper(cords, rule, doing)
    if paper[0] == "row":
        return paper[1]
    return None


def doing_paper(cords, rule, doing):
    """A paper on whether these numbers are the doing of a row."""
    need_doing(cords, rule, doing)
    growth = growth_over(cords, rule)
    number = growth.first_number(doing)
    if number is not None:
        return "row", growth.least_row(number)
    growth.need_all()
    return "closed", growth.least_rows()


def check_doing(cords, rule, doing, paper):
    """Whether a paper shows that a row has the doing, not that none has."""
    need_doing(cords, rule, doing)
    need_paper_form(("row", "closed"), paper)
    if paper[0] == "row":
        is_good = is_paper_row(cords, paper[1]) and doing_over(cords, paper[1], rule) == doing
    else:
        is_good = are_paper_rows(cords, paper[1]) and is_closed_without(all_moves(cords, rule), doing, paper[1])
    if not is_good:
        raise BadPaper(paper[0])
    return paper[0] == "row"


def are_paper_rows(cords, value):
    """Whether a value is a tuple of rows such as a paper may have, the empty one among them."""
    return isinstance(value, tuple) and all([is_paper_row(cords, row) for row in value]) and () in value


def is_closed_without(moves, doing, rows):
    """Whether no row has the doing, and crossings behind rows lead to doings of rows again."""
    known = {found: True for found in doings_of_rows(moves, rows)}
    if doing in known:
        return False
    for found in known:
        for move in moves.values():
            if moved_on(move, found) not in known:
                return False
    return True


def again_and_again(cords, row, rule):
    """From how many times on the row done again and again repeats its doings, and behind how many further times."""
    doing = doing_of(cords, row, rule)
    first, step = 0, 1
    for number in range(len(doing)):
        tail, round_length = tail_and_round(doing, number)
        first = max(first, tail)
        step = lcm(step, round_length)
    return first, step


def tail_and_round(doing, number):
    """How many times lead from a colouring into a round, and how many times lead around it."""
    met = {}
    while number not in met:
        met[number] = len(met)
        number = doing[number]
    return met[number], len(met) - met[number]
