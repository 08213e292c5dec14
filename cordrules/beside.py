"""Which of two tables sees as much as the other one, and the first mistake of a custom."""

from cordrules.breaches import does_keep
from cordrules.checks import need_cords, need_custom
from cordrules.colourings import (
    all_moves, doings_of_rows, growth_over_both, moved_on, need_few_colourings, nothing_done)
from cordrules.doings import are_paper_rows
from cordrules.errors import BadCustom, BadPaper, TooGreat
from cordrules.growth import MOST_KINDS, growth_of
from cordrules.rules import need_table
from cordrules.showing import is_paper_row, need_paper_form


def need_both(cords, rule, far_rule):
    """Refuses what is wrong, in this turn."""
    need_cords(cords)
    need_table(rule)
    need_table(far_rule)
    need_few_colourings(cords, rule)
    need_few_colourings(cords, far_rule)


def sees_as_much(cords, rule, far_rule):
    """Whether rows with one doing over the first table have one doing over the second one."""
    return beside_paper(cords, rule, far_rule)[0] == "closed"


def beside_paper(cords, rule, far_rule):
    """A paper on whether the first table sees as much as the second one."""
    need_both(cords, rule, far_rule)
    growth = growth_over_both(cords, rule, far_rule)
    growth.need_all()
    numbers = {}
    for number, (doing, _) in enumerate(growth.found):
        if doing in numbers:
            return "rows", growth.least_row(numbers[doing]), growth.least_row(number)
        numbers[doing] = number
    return "closed", growth.least_rows()


def check_beside(cords, rule, far_rule, paper):
    """Whether a paper shows that the first table sees as much, not that it doesn't."""
    need_both(cords, rule, far_rule)
    need_paper_form(("rows", "closed"), paper)
    moves, far_moves = all_moves(cords, rule), all_moves(cords, far_rule)
    if paper[0] == "rows":
        is_good = are_seen_apart(cords, moves, far_moves, paper[1:])
    else:
        is_good = are_paper_rows(cords, paper[1]) and are_closed_beside(moves, far_moves, paper[1])
    if not is_good:
        raise BadPaper(paper[0])
    return paper[0] == "closed"


def are_seen_apart(cords, moves, far_moves, rows):
    """Whether two values are rows which the second table alone tells apart."""
    if not is_paper_row(cords, rows[0]) or not is_paper_row(cords, rows[1]):
        return False
    doings, far_doings = doings_of_rows(moves, rows), doings_of_rows(far_moves, rows)
    return doings[0] == doings[1] and far_doings[0] != far_doings[1]


def are_closed_beside(moves, far_moves, rows):
    """Whether rows have unlike doings over the first table, and crossings lead from them to both doings of rows."""
    pairs = {}
    for doing, far_doing in zip(doings_of_rows(moves, rows), doings_of_rows(far_moves, rows)):
        if doing in pairs:
            return False
        pairs[doing] = far_doing
    for doing, far_doing in pairs.items():
        for crossing in moves:
            behind = moved_on(moves[crossing], doing)
            if behind not in pairs or pairs[behind] != moved_on(far_moves[crossing], far_doing):
                return False
    return True


def first_mistake(cords, rule, custom):
    """The first two rows that the table takes for one another against the custom, None if there are none."""
    need_cords(cords)
    need_table(rule)
    need_custom(custom)
    if not does_keep(rule, custom):
        raise BadCustom(custom)
    need_few_colourings(cords, rule)
    growth = growth_of(cords, custom)
    moves = all_moves(cords, rule)
    # Only least rows of kinds by the custom can be the first ones taken for another row.
    doings = [nothing_done(moves)]
    numbers = {doings[0]: 0}
    while growth.can_grow():
        growth.grow()
        for number in range(len(doings), len(growth.found)):
            if number >= MOST_KINDS:
                raise TooGreat(MOST_KINDS)
            before, crossing = growth.made[number]
            doing = moved_on(moves[crossing], doings[before])
            if doing in numbers:
                return growth.least_row(numbers[doing]), growth.least_row(number)
            numbers[doing] = number
            doings.append(doing)
    return None
