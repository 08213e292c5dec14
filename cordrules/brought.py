"""What rows bring from a colouring."""

from cordrules.checks import need_cords, need_number
from cordrules.colourings import all_colourings, need_few_colourings
from cordrules.errors import BadPaper
from cordrules.growth import Growth
from cordrules.parting import are_colours
from cordrules.rules import change_by, need_colours_of, need_table
from cordrules.showing import is_paper_row, need_paper_form
from cordrules.working import all_crossings, work_crossing, work_row

MOST_TIMES = 60


def need_colouring(cords, rule, colours):
    """The colouring itself; the cords and the table are looked at first."""
    need_cords(cords)
    need_table(rule)
    return need_colours_of(rule, colours, cords)


def need_goal(cords, rule, colours, goal):
    """Likewise with a second colouring."""
    need_colouring(cords, rule, colours)
    return need_colours_of(rule, goal, cords)


def growth_from(cords, rule, colours):
    """The colourings that rows bring from a colouring, as far as they have been asked for."""
    change = change_by(rule)
    return Growth(cords, colours, lambda key, crossing: work_crossing(key, crossing, change))


def brought_from(cords, rule, colours):
    """All that is brought from the colouring, in the turn of the least rows that lead there."""
    need_colouring(cords, rule, colours)
    need_few_colourings(cords, rule)
    return brought_along(growth_from(cords, rule, colours))


def brought_along(growth):
    """Likewise, by the colourings that are growing from one."""
    growth.need_all()
    return tuple(growth.found)


def row_brought(cords, rule, colours, goal):
    """The least row that leads from the colouring to the goal, None if there is none."""
    paper = brought_paper(cords, rule, colours, goal)
    if paper[0] == "row":
        return paper[1]
    return None


def brought_paper(cords, rule, colours, goal):
    """A paper on whether the goal is brought from the colouring."""
    need_goal(cords, rule, colours, goal)
    need_few_colourings(cords, rule)
    growth = growth_from(cords, rule, colours)
    found = brought_along(growth)
    if goal in found:
        return "row", growth.least_row(found.index(goal))
    return "closed", found


def check_brought(cords, rule, colours, goal, paper):
    """Whether a paper shows that the goal is brought from the colouring, not that it isn't."""
    need_goal(cords, rule, colours, goal)
    need_few_colourings(cords, rule)
    need_paper_form(("row", "closed"), paper)
    if paper[0] == "row":
        is_good = is_paper_row(cords, paper[1]) and work_row(colours, paper[1], change_by(rule)) == goal
    else:
        is_good = is_closed_before(cords, rule, colours, goal, paper[1])
    if not is_good:
        raise BadPaper(paper[0])
    return paper[0] == "row"


def is_closed_before(cords, rule, colours, goal, value):
    """Whether a value is a tuple of unlike colourings that shows that the goal never comes."""
    if not isinstance(value, tuple) or not all([are_colours(cords, rule, found) for found in value]):
        return False
    inside = {found: True for found in value}
    if len(inside) < len(value) or colours not in inside or goal in inside:
        return False
    change = change_by(rule)
    for found in value:
        for crossing in all_crossings(cords):
            if work_crossing(found, crossing, change) not in inside:
                return False
    return True


def rounds_of(cords, rule):
    """All rounds, ascending."""
    need_cords(cords)
    need_few_colourings(cords, need_table(rule))
    brought = {}
    for colouring in all_colourings(cords, len(rule[1])):
        brought[colouring] = {found: True for found in brought_along(growth_from(cords, rule, colouring))}
    rounds = []
    placed = {}
    for colouring in brought:
        if colouring not in placed:
            one_round = sorted([found for found in brought[colouring] if colouring in brought[found]])
            placed.update({found: True for found in one_round})
            rounds.append(tuple(one_round))
    return tuple(rounds)


def still_ones(cords, rule):
    """All still colourings, ascending."""
    need_cords(cords)
    need_few_colourings(cords, need_table(rule))
    change = change_by(rule)
    still = []
    for colouring in all_colourings(cords, len(rule[1])):
        if all([work_crossing(colouring, crossing, change) == colouring for crossing in all_crossings(cords)]):
            still.append(colouring)
    return tuple(still)


def rows_brought(cords, rule, colours, goal, many):
    """How many rows of so many crossings lead from the colouring to the goal."""
    need_goal(cords, rule, colours, goal)
    need_number(many, 0, MOST_TIMES)
    need_few_colourings(cords, rule)
    change = change_by(rule)
    counts = {colours: 1}
    for _ in range(many):
        behind = {}
        for colouring, count in counts.items():
            for crossing in all_crossings(cords):
                found = work_crossing(colouring, crossing, change)
                behind[found] = behind.get(found, 0) + count
        counts = behind
    return counts.get(goal, 0)
