"""Forms by customs, and rows that are alike."""

from cordrules.checks import (
    CUSTOMS, is_below, is_tuple_of, is_whole, need_cord, need_cords, need_cords_and_row, need_cords_and_rows,
    need_custom)
from cordrules.errors import BadCustom, BadForm, BadNumber
from cordrules.forms import TERM_CUSTOMS, are_one_kind, forms_along, forms_at_beginning, forms_behind
from cordrules.letters import is_word, sign_of, sums_of_signs
from cordrules.terms import cord_below, is_least_term, least_of, wrong_place
from cordrules.words import form_by_through
from cordrules.working import meetings


def customs():
    """The six customs, the weakest one first."""
    return CUSTOMS


def need_forms(cords, custom, forms):
    """The forms themselves."""
    need_cords(cords)
    need_custom(custom)
    if not is_tuple_of(forms, cords):
        raise BadForm(None)
    seen = []
    for place, form in enumerate(forms):
        if not is_form(cords, custom, form):
            raise BadForm(place)
        cord = cord_of_form(custom, form)
        if cord in seen:
            raise BadForm(place)
        seen.append(cord)
    return forms


def is_form(cords, custom, value):
    """Whether a value is a form by the custom."""
    if custom in TERM_CUSTOMS:
        return wrong_place(cords, value) is None and (custom == "any" or is_least_term(value))
    if custom == "never":
        return is_below(value, cords)
    if not is_tuple_of(value, 2) or not is_below(value[1], cords):
        return False
    if custom == "through":
        return is_word(cords, value[0])
    if not is_tuple_of(value[0], cords):
        return False
    if custom == "began":
        return all([is_whole(count) for count in value[0]])
    return all([is_below(count, 2) for count in value[0]])


def cord_of_form(custom, form):
    """The cord that has the form."""
    if custom == "never":
        return form
    if custom in TERM_CUSTOMS:
        return cord_below(form)
    return form[1]


def beginning_forms(cords, custom):
    """The forms of the empty row."""
    need_cords(cords)
    need_custom(custom)
    return forms_at_beginning(cords, custom)


def forms_of(cords, row, custom):
    """The forms of a row."""
    need_cords_and_row(cords, row)
    need_custom(custom)
    return forms_behind(cords, row, custom)


def forms_on(cords, custom, forms, row):
    """What becomes of forms along a row."""
    need_forms(cords, custom, forms)
    need_cords_and_row(cords, row)
    return forms_along(custom, forms, row)


def are_alike(cords, row, other, custom):
    """Whether the rows are alike by the custom."""
    need_cords_and_rows(cords, row, other)
    need_custom(custom)
    return are_one_kind(cords, row, other, custom)


def weakest_custom(cords, row, other):
    """The weakest custom by which the rows are alike, None if there is none."""
    need_cords_and_rows(cords, row, other)
    for custom in CUSTOMS:
        if are_one_kind(cords, row, other, custom):
            return custom
    return None


def stronger_forms(cords, custom, forms, far_custom):
    """The forms by a stronger custom, or by the same one, that come step by step."""
    need_forms(cords, custom, forms)
    need_custom(far_custom)
    if CUSTOMS.index(far_custom) < CUSTOMS.index(custom):
        raise BadCustom(far_custom)
    for step in CUSTOMS[CUSTOMS.index(custom):CUSTOMS.index(far_custom)]:
        forms = tuple([next_stronger(cords, step, form) for form in forms])
    return forms


def next_stronger(cords, custom, form):
    """The next stronger form of a form."""
    if custom == "any":
        return least_of(form)
    if custom == "back":
        return form_by_through(form)
    if custom == "through":
        return sums_of_signs(cords, form[0]), form[1]
    if custom == "began":
        return tuple([count % 2 for count in form[0]]), form[1]
    return form[1]


def pair_number(cords, row, cord, far_cord):
    """How many crossings of the two cords are "left", less how many are "right"."""
    need_cords_and_row(cords, row)
    need_cord(cords, cord)
    need_cord(cords, far_cord)
    if far_cord <= cord:
        raise BadNumber(far_cord)
    return sums_of_pairs(cords, row)[(cord, far_cord)]


def pair_numbers(cords, row):
    """The ascending tuple of the triples of two cords and their pair number."""
    need_cords_and_row(cords, row)
    sums = sums_of_pairs(cords, row)
    return tuple([(cord, far_cord, sums[(cord, far_cord)]) for cord, far_cord in sums])


def sums_of_pairs(cords, row):
    """For each two cords, ascending, their pair number."""
    sums = {(cord, far_cord): 0 for cord in range(cords) for far_cord in range(cord + 1, cords)}
    for over, under, side in meetings(cords, row):
        sums[(min(over, under), max(over, under))] += sign_of(side)
    return sums
