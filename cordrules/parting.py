"""Rows that are parted by finite rules, and rules that tell rows apart."""

from cordrules.apart import by_cords, by_ends, by_marks, by_one_count, by_parts, by_powers, still_table
from cordrules.breaches import does_keep
from cordrules.checks import is_below, is_tuple_of, need_cords, need_cords_and_rows, need_custom, need_row
from cordrules.errors import BadBook, BadColours, BadPaper, BadRule
from cordrules.forms import TERM_CUSTOMS, forms_behind, numbered_forms
from cordrules.nodes import Nodes
from cordrules.rules import change_by, need_colours, need_colours_of, need_rule
from cordrules.working import order_behind, work_row

MOST_ROWS = 6


def check_parting(cords, row, other, custom, paper):
    """The paper itself, if it is a parting paper of the two rows by the custom."""
    need_cords_and_rows(cords, row, other)
    need_custom(custom)
    word = wrong_word(cords, row, other, custom, paper)
    if word is not None:
        raise BadPaper(word)
    return paper


def wrong_word(cords, row, other, custom, paper):
    """The word for what is wrong with a paper, None if nothing is."""
    word = wrong_rule_word(custom, paper)
    if word is None:
        word = wrong_end_word(cords, row, other, paper)
    return word


def wrong_rule_word(custom, paper):
    """The word for what is wrong with the form of a paper or with its rule, None if nothing is."""
    if not is_tuple_of(paper, 3):
        return "form"
    if not is_told_rule(paper[0]):
        return "rule"
    if not does_keep(paper[0], custom):
        return "custom"
    return None


def wrong_end_word(cords, row, other, paper):
    """The word for what is wrong with the colours and the place of a paper, None if nothing is."""
    rule, colours, place = paper
    if not are_colours(cords, rule, colours):
        return "colours"
    if not is_below(place, cords):
        return "place"
    change = change_by(rule)
    if work_row(colours, row, change)[place] == work_row(colours, other, change)[place]:
        return "same"
    return None


def is_told_rule(value):
    """Whether a value is a told rule."""
    try:
        need_rule(value)
    except BadRule:
        return False
    return True


def are_colours(cords, rule, value):
    """Whether a value is a tuple of as many colours of the rule as cords."""
    try:
        need_colours_of(rule, value, cords)
    except BadColours:
        return False
    return True


def part_rows(cords, row, other, custom):
    """A parting paper of the two rows by the custom, None if they are alike."""
    need_cords_and_rows(cords, row, other)
    need_custom(custom)
    nodes = Nodes()
    forms = comparable_forms(nodes, cords, row, custom)
    far_forms = comparable_forms(nodes, cords, other, custom)
    order = order_behind(cords, row)
    place = first_unlike(order, order_behind(cords, other))
    if place is not None:
        colours = tuple([0 if cord == order[place] else 1 for cord in range(cords)])
        return still_table(2), colours, place
    place = first_unlike(forms, far_forms)
    if place is None:
        return None
    form, far_form = forms[place], far_forms[place]
    if custom in TERM_CUSTOMS:
        rule, colours = by_parts(cords, nodes, (form, far_form), custom)
    elif custom == "through":
        rule, colours = by_ends(cords, (form[0], far_form[0]))
    else:
        rule, colours = by_one_count(cords, form[0], far_form[0], custom)
    return rule, colours, place


def comparable_forms(nodes, cords, row, custom):
    """The forms of a row, those that are terms as their numbers."""
    if custom in TERM_CUSTOMS:
        return numbered_forms(nodes, cords, row, custom)
    return forms_behind(cords, row, custom)


def first_unlike(things, others):
    """The first place at which the things are unlike, None if there is none."""
    for place, (thing, other) in enumerate(zip(things, others)):
        if thing != other:
            return place
    return None


def need_many_rows(cords, many_rows):
    """The rows themselves, if there are so many as can be told apart."""
    need_cords(cords)
    if not isinstance(many_rows, tuple) or not 1 <= len(many_rows) <= MOST_ROWS:
        raise BadBook(None)
    for row in many_rows:
        need_row(cords, row)
    return many_rows


def rule_for(cords, many_rows, custom):
    """A pair of a told rule that keeps the custom and colours that tell the rows apart."""
    need_many_rows(cords, many_rows)
    need_custom(custom)
    nodes = Nodes()
    many_forms = [comparable_forms(nodes, cords, row, custom) for row in many_rows]
    if custom in TERM_CUSTOMS:
        return by_parts(cords, nodes, [number for numbers in many_forms for number in numbers], custom)
    if custom == "through":
        return by_ends(cords, [word for forms in many_forms for word, _ in forms])
    if custom == "began":
        return by_powers(cords, many_forms)
    if custom == "twice":
        return by_marks(cords)
    return by_cords(cords)


def told_apart(cords, many_rows, rule, colours):
    """For each row the number of the first one that has the same colours behind it."""
    need_many_rows(cords, many_rows)
    need_colours(cords, rule, colours)
    ends = [work_row(colours, row, change_by(rule)) for row in many_rows]
    return tuple([ends.index(end) for end in ends])
