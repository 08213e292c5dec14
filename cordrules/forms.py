"""What becomes of forms along rows, where all is known to be as it should."""

from cordrules.letters import change_by_through, sign_of
from cordrules.nodes import Nodes
from cordrules.terms import need_short
from cordrules.working import keep_under, work_row

TERM_CUSTOMS = ("any", "back")


def forms_at_beginning(cords, custom):
    """The forms of the empty row."""
    if custom in TERM_CUSTOMS:
        return tuple([("cord", cord) for cord in range(cords)])
    if custom == "through":
        return tuple([((), cord) for cord in range(cords)])
    if custom == "never":
        return tuple(range(cords))
    return tuple([((0,) * cords, cord) for cord in range(cords)])


def forms_along(custom, forms, row):
    """What becomes of forms along a row."""
    if custom in TERM_CUSTOMS:
        nodes = Nodes()
        numbers = tuple([nodes.number_of(form, custom) for form in forms])
        numbers = work_row(numbers, row, nodes.change(custom))
        return tuple([need_short(nodes, number) for number in numbers])
    return work_row(forms, row, change_by_custom(custom))


def change_by_custom(custom):
    """What becomes of a form that goes under, where forms are no terms."""
    if custom == "through":
        return change_by_through
    if custom == "began":
        return change_by_began
    if custom == "twice":
        return change_by_twice
    return keep_under


def forms_behind(cords, row, custom):
    """The forms of a row."""
    return forms_along(custom, forms_at_beginning(cords, custom), row)


def change_by_began(side, over, under):
    """What becomes by "began" of the form of a cord that goes under."""
    counts, cord = under
    met = over[1]
    return counts[:met] + (counts[met] + sign_of(side),) + counts[met + 1:], cord


def change_by_twice(_side, over, under):
    """What becomes by "twice" of the form of a cord that goes under."""
    counts, cord = under
    met = over[1]
    return counts[:met] + (1 - counts[met],) + counts[met + 1:], cord


def numbered_forms(nodes, cords, row, custom):
    """The numbers of the forms of a row by "any" or "back"; the cords have the first numbers of the nodes."""
    return work_row(tuple([nodes.cord(cord) for cord in range(cords)]), row, nodes.change(custom))


def are_one_kind(cords, row, other, custom):
    """Whether two rows are alike by a custom; raises TooGreat for long rows and "through" alone."""
    if custom in TERM_CUSTOMS:
        # As tuples such terms may be too long to be compared.
        nodes = Nodes()
        return numbered_forms(nodes, cords, row, custom) == numbered_forms(nodes, cords, other, custom)
    forms = forms_behind(cords, row, custom)
    return forms == forms_behind(cords, other, custom)
