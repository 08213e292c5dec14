"""Forms by "any": the deeds that they tell, and the rows that show them, in their order."""

from cordrules.checks import is_whole, need_cords_and_row
from cordrules.errors import BadNumber, BadPaper
from cordrules.forms import numbered_forms
from cordrules.likeness import need_forms
from cordrules.nodes import Nodes
from cordrules.states import States, states_of


def deeds_of(cords, forms):
    """For each cord, ascending, the tuple of its deeds."""
    need_forms(cords, "any", forms)
    deeds = [()] * cords
    for form in forms:
        told = []
        while form[0] != "cord":
            told.append(("left" if form[0] == "on" else "right", form[1]))
            form = form[2]
        deeds[form[1]] = tuple(told[::-1])
    return tuple(deeds)


def next_states(cords, forms, state):
    """The ascending tuple of pairs of a crossing that fits the state and the state to which it leads."""
    need_forms(cords, "any", forms)
    states = states_of(forms)
    if not states.is_state(state):
        raise BadPaper("state")
    return tuple(states.nexts_of(state))


def how_many_rows(cords, forms):
    """How many rows show the forms."""
    need_forms(cords, "any", forms)
    states = states_of(forms)
    states.need_few()
    return states.ways()[states.first]


def row_among(cords, forms, number):
    """The row with this number among the rows that show the forms, ascending."""
    need_forms(cords, "any", forms)
    if not is_whole(number) or number < 0:
        raise BadNumber(number)
    states = states_of(forms)
    states.need_few()
    ways = states.ways()
    if number >= ways[states.first]:
        raise BadNumber(number)
    return states.row_with(ways, number)


def number_among(cords, row):
    """The number of the row among all rows that are alike to it by "any"."""
    need_cords_and_row(cords, row)
    nodes = Nodes()
    # As tuples the forms of a row may be far too long.
    return States(nodes, numbered_forms(nodes, cords, row, "any")).number_of_row(row)
