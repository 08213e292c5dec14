"""Forms by "through" that are peeled: their weights, their peeled rows and what remains."""

from cordrules.checks import need_cords_and_row
from cordrules.forms import forms_behind
from cordrules.likeness import need_forms
from cordrules.spelled import next_off, peel_spelled, spelled_forms, told_forms, weight_of


def weights_of(cords, forms):
    """The weights by places."""
    need_forms(cords, "through", forms)
    return tuple([weight_of(form) for form in spelled_forms(forms)])


def next_peeled(cords, forms):
    """The crossing that is taken back next, None if there is none."""
    need_forms(cords, "through", forms)
    return next_off(spelled_forms(forms))


def peeled(cords, forms):
    """The pair of the peeled row and the rest."""
    need_forms(cords, "through", forms)
    row, rest = peel_spelled(spelled_forms(forms))
    return row, told_forms(rest)


def peeled_row(cords, row):
    """The peeled row of the forms of the row."""
    need_cords_and_row(cords, row)
    return peel_spelled(spelled_forms(forms_behind(cords, row, "through")))[0]
